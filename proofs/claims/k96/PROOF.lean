import PyProof.Rows.All
import Wide.All
import OpenK.AllK
import Wide.FinOn
import HandS.Base
import HandS.Call
import HandS.List
import HandS.Comp
import HandS.Dict
import HandS.Iter
import HandS.Text
import HandS.Ends
import HandS.Exc
import HandS.ExcOwn
import HandS.TryOnly
import HandS.TryMany
import HandS.ExcInit
import HandS.ExcField
import HandS.ExcIs
import HandS.IsInst
import HandS.WideBits
import HandS.ForMost
import HandS.WordsExc
import KE.KTryMore
import KE.KExcHand
import KE.KExcInit
import HandS.Small
import HandS.SetFor
import HandS.Zip
import PyProof.Draws
import PyProof.EnumMake
import HandS.HotCalls
import HandS.ExcInitHot
import HandS.Replace
import PyProof.TupleCall
import PyProof.CollectStr
import HandS.SetKeys
import HandS.Strs
import HandS.More
import HandS.SetBool
import HandS.DictComp
import KE.GoesMore
import HandS.Rev
import KE.KDictList
import HandS.GenBody
import HandS.GenYield
import HandS.GenCall
import HandS.GenList
import KE.GoesZip
import KE.GoesEnum
import KE.GoesNew
import KE.DataFind
import HandS.Defaults
import HandS.Deep
import PyProof.IsRules
import HandS.FStr
import HandS.TupAny
import HandS.TupMul
import HandS.Star
import HandS.Conv
import HandS.SortInts
import PyProof.StrLawsRepr
import PyProof.FitsInt
import HandS.Codes
import PySem.Challenge.RW_pairsigns_k96_plan_texts
set_option linter.all false
set_option Elab.async false
set_option linter.all false
set_option maxRecDepth 100000
set_option maxHeartbeats 4000000
namespace PSG
open PySem PySem.Spec PyProof.Rows L2
/-! ### promises of defs that know that no repr is under way -/
structure FnG (P : Program) (w : World) (K : PySem.W.Frag) (mg : Str → Option Value) (base : Heap) (CT : CXT) (n : Nat) (at_ : Addr) (fd : FuncData) (ps : List Str) (sp : Sp) : Prop where
  many : ∀ vs H Q E, sp vs H Q E → vs.length = ps.length
  goes : ∀ (B : Around) (up : List Env) (s : Shared) (H : Hp) (ar : Args) (us : List Value) (vs : List V) (Q : VK) (E : XK),
    Room n B → B.guards = some [] → Env0 P w K mg base B up s H →
    BindsTo s fd ar (ps.zip us) → Vals vs us → sp vs H Q E →
    codeAny (model P w) B (.call (.ref at_) ar) (CR CT up P w H s Q E) s
section
variable {P : Program} {w : World} {K : PySem.W.Frag} {mg : Str → Option Value} {base : Heap} {CT : CXT}
theorem FnG.of {n : Nat} {at_ : Addr} {fd : FuncData} {ps : List Str} {sp : Sp} (F : FnOk P w K mg base CT n at_ fd ps sp) : FnG P w K mg base CT n at_ fd ps sp :=
  ⟨F.len, fun B up s H ar us vs Q E r _ => F.run B up s H ar us vs Q E r⟩
theorem fnG {n : Nat} {at_ : Addr} {nm ql : Str} {pa : Arguments} {bd : List Stmt} {sc : Scope} {dv kv dc pm cv ct oc : Value} {an od : Option Addr}
    {sl : Array (Option Value)} {N ps : List Str} {sp : Sp}
    (found : K.lookup at_ = some ⟨oc, od, .func (PySem.W.fnOf nm ql pa bd sc dv kv dc pm an cv ct), sl⟩)
    (code : PySem.W.codeIn K cv ql = true) (S : FnScope N ps sc) (many : ∀ vs H Q E, sp vs H Q E → vs.length = ps.length)
    (main : ∀ (B : Around) (up : List Env) (s : Shared) (H : Hp) (vs : List V) (Q : VK) (E : XK),
      Room n (B.deeper (envOfC ql sc s.heap.objs.size at_ cv)) → B.guards = some [] → sp vs H Q E →
      ∃ t, PSs (cxOf CT P w K mg base N ql sc at_ cv B up s H E) bd t ∧ t { nx := fun _ G => Q .non G, rt := Q } (start N vs) H) :
    FnG P w K mg base CT (n + 1) at_ (PySem.W.fnOf nm ql pa bd sc dv kv dc pm an cv ct) ps sp where
  many := many
  goes := by
    intro B up s H ar us vs Q E room gd en bi va ho
    have keepB : ∀ b o, base.get? b = some o → s.heap.get? b = some o := fun b o z => (en.bs b o z).1
    have atK := en.mod.kin.keeps keepB
    refine codeAny_call_function room.depth (atK _ _ found) rfl S.co S.gen rfl (PySem.W.codeRec_of atK code) (bi _ _ _ _ ?_)
    refine wpAny_newFunctionEnv_cells S.kind (fun y hy => ?_) fun env he t1 x => ?_
    · obtain ⟨n, v⟩ := y
      cases S.par n (List.of_mem_zip hy).1 with
      | inl z => exact .inl z
      | inr z => exact .inr ⟨z, PySem.W.cellsFrom_some _ _ _ (.inl z)⟩
    · cases he
      refine ⟨(en.mod.nolimit.keeps keepB).keeps x.toInCall.keep, codeAny_func ?_⟩
      obtain ⟨t, der, rd⟩ := main B up s H vs Q E (room.deeper _) gd ho
      have J := inv_start (CX := CT) (E := E) S room.hd en (many _ _ _ _ ho) va x
      refine wpAny_mono (der.run [] t1 _ H _ J rd) ?_ fun _ _ z => z
      intro fl t2 z
      cases fl with
      | next =>
        obtain ⟨_, G, J2, q⟩ := z
        exact ⟨V.non, G, J2.os, J2.bare, J2.base, J2.hok, rfl, q⟩
      | ret u =>
        obtain ⟨v, _, G, J2, rel, q⟩ := z
        exact ⟨v, G, J2.os, J2.bare, J2.base, J2.hok, rel, q⟩
      | brk => exact (show False from z.choose_spec.choose_spec.2).elim
      | cont => exact (show False from z.choose_spec.choose_spec.2).elim
end
section
variable {X : Cx} {CT : CXT} {n : Nat} {at_ : Addr} {fd : FuncData} {ps : List Str} {sp : Sp} {dvs : List V} {ds : List Value} {E : XK} {x : Str} {p pos : Pos} {e : Expr} {es : List Expr} {t : TA}
theorem run_g {pins : List (Addr × Obj)} {σ : L2.St} {H : Hp} {s : Shared} {Q : VK} {us : List Value} {vs : List V}
    (F : FnG X.prog X.w X.K X.mg X.base CT n at_ fd ps sp) (room : Room n X.A) (gd : X.A.guards = some []) (bi : Binds X.K fd ps ds) (dv : Vals dvs ds) (pass : Passes CT X E)
    (I : Inv X pins σ H s) (va : Vals vs us) (ho : sp (vs ++ dvs) H Q E) : wpAny (model X.prog X.w) X.A (call (.ref at_) us) (EP X pins σ Q) X.xe s := by
  have va2 := va.append dv
  have many : (us ++ ds).length = ps.length := va2.length.symm.trans (F.many _ _ _ _ ho)
  refine wpAny_call (codeAny_mono (F.goes X.A X.stack s H ⟨us, []⟩ (us ++ ds) (vs ++ dvs) Q E room gd I.env0 (bi s us I.kIn many) va2 ho) ?_)
  intro r t2 z
  match r, z with
  | .error er, z => exact pass pins σ H s er t2 I z
  | .ok (.ret u), z => exact I.after z
theorem pe_callG (F : FnG X.prog X.w X.K X.mg X.base CT n at_ fd ps sp) (room : Room n X.A) (gd : X.A.guards = some []) (hg : Gl X x) (hm : X.mg x = some (.ref at_)) (kp : PySem.W.keepIn X.K (.ref at_) = true)
    (bi : Binds X.K fd ps ds) (dv : Vals dvs ds) (pass : Passes CT X E) (ha : PA X (e :: es) t) (nd : (x == ("__debug__" : Str)) = false := by decide)
    (se : starEach (e :: es) X.env = (false, eval e X.env) :: starEach es X.env := by rfl) (sn : (backTo pos (starEach es X.env)).any (·.1) = false := by rfl) :
    PE X (.Call (.Name x p) (e :: es) [] pos) (tCall sp dvs E t) where
  run := fun pins s σ H Q I ho => wpAny_Call_Name_kw (ld_glob I hg hm (PySem.W.callWith_K (h₀ := X.base) I.ok.mod.kin kp
    (thn (ha.run pos pins s σ H _ I ho) fun us s1 ⟨vs, H1, I1, r, q⟩ => ⟨I1.kIn, run_g F room gd bi dv pass I1 r q⟩) se sn) nd)
end
end PSG

set_option Elab.async false
set_option linter.all false
set_option maxRecDepth 100000
set_option maxHeartbeats 4000000
namespace PSG
open PySem PySem.Spec L2
open PyProof.Rows (IntsAre AllBare)
/-! ### data with flat dicts, and repr -/
/-- a key as data -/
def keyD : Key → PyData
  | .inl i => .int i
  | .inr x => .str x
/-- a value that is no object, as data -/
def flatD : V → Option PyData
  | .non => some .none
  | .bl b => some (.bool b)
  | .int i => some (.int i)
  | .str x => some (.str x)
  | _ => none
mutual
/-- a value that is data, all of it tracked -/
inductive Dt (far : Bool) (H : Hp) : V → PyData → Prop
  | non : Dt far H .non .none
  | bl (b : Bool) : Dt far H (.bl b) (.bool b)
  | int (i : Int) : Dt far H (.int i) (.int i)
  | str (x : Str) : Dt far H (.str x) (.str x)
  | lst {a : Addr} {xs : List V} {ds : List PyData} : H a = some (.lst xs) → (far = true → a ≠ sysModules) → DtAll far H xs ds → Dt far H (.ref a) (.list ds)
  | tup {a : Addr} {xs : List V} {ds : List PyData} : H a = some (.tup xs) → DtAll far H xs ds → Dt far H (.ref a) (.tuple ds)
  | dict {a : Addr} {kvs : List (Key × V)} {kds : List (Key × PyData)} : H a = some (.dK kvs) → Paired (fun p q => p.1 = q.1 ∧ flatD p.2 = some q.2) kvs kds →
      Dt far H (.ref a) (.dict (kds.map fun q => (keyD q.1, q.2)))
inductive DtAll (far : Bool) (H : Hp) : List V → List PyData → Prop
  | nil : DtAll far H [] []
  | cons {v : V} {vs : List V} {d : PyData} {ds : List PyData} : Dt far H v d → DtAll far H vs ds → DtAll far H (v :: vs) (d :: ds)
end
mutual
def hasList : PyData → Bool
  | .list _ => true
  | .tuple xs => hasListAll xs
  | _ => false
def hasListAll : List PyData → Bool
  | [] => false
  | x :: xs => hasList x || hasListAll xs
end
theorem flat_reads {h : Heap} {v : V} {u : Value} {d : PyData} (e : flatD v = some d) (r : RelV v u) : Reads h u d [] := by
  cases v with
  | non => cases e; cases r; exact .none
  | bl b => cases e; cases r; exact .bool b
  | int i => cases e; obtain ⟨t, rfl⟩ := r; exact .int i t
  | str x => cases e; obtain ⟨t, rfl⟩ := r; exact .str x t
  | byt _ => cases e
  | flt _ => cases e
  | ref _ => cases e
  | ty _ => cases e
theorem key_reads {h : Heap} {k : Key} {u : Value} (e : keyIs k u = true) : Reads h u (keyD k) [] := by
  rcases keyIs_shape e with ⟨i, t, rfl, rfl⟩ | ⟨x, t, rfl, rfl⟩
  · exact .int i t
  · exact .str x t
theorem dict_reads {P : Program} {w : World} {h : Heap} : ∀ {kvs : List (Key × V)} {kds : List (Key × PyData)} {vs : List (Key × Value)} {es : List DictEntry},
    Paired (fun p q => p.1 = q.1 ∧ flatD p.2 = some q.2) kvs kds → KV kvs vs → Pairs (mixKind P w) es vs →
    ReadsAll h (es.map (·.key)) ((kds.map fun q => (keyD q.1, q.2)).map (·.1)) [] ∧ ReadsAll h (es.map (·.val)) ((kds.map fun q => (keyD q.1, q.2)).map (·.2)) []
  | _, _, _, _, .nil, .nil, .nil => ⟨.nil, .nil⟩
  | _, _, _, _, .cons ⟨e1, f⟩ t1, .cons ⟨e2, r⟩ t2, .cons k v t3 => by
    obtain ⟨i1, i2⟩ := dict_reads (h := h) t1 t2 t3
    have k' : keyIs _ _ = true := k
    rw [← e2, e1] at k'
    refine ⟨ReadsAll.cons (as := []) (key_reads k') i1, ReadsAll.cons (as := []) ?_ i2⟩
    dsimp only
    rw [v]
    exact flat_reads f r
section
variable {X : Cx} {pins : List (Addr × Obj)} {σ : L2.St} {H : Hp} {s : Shared}
mutual
/-- such data is read; where it has no list, sys.modules is not within -/
theorem Dt.reads {far : Bool} (I : Inv X pins σ H s) : ∀ {d : PyData} {v : V} {u : Value}, Dt far H v d → RelV v u → ∃ as, Reads s.heap u d as ∧ ((far = true ∨ hasList d = false) → sysModules ∉ as)
  | _, _, _, .non, r => by cases r; exact ⟨_, .none, fun _ m => nomatch m⟩
  | _, _, _, .bl b, r => by cases r; exact ⟨_, .bool b, fun _ m => nomatch m⟩
  | _, _, _, .int i, r => by obtain ⟨t, rfl⟩ := r; exact ⟨_, .int i t, fun _ m => nomatch m⟩
  | _, _, _, .str x, r => by obtain ⟨t, rfl⟩ := r; exact ⟨_, .str x t, fun _ m => nomatch m⟩
  | _, _, _, .lst (a := a) (xs := xs) e fr t, r => by
    cases r
    obtain ⟨_, its, n, rv, ho⟩ := I.hok a (.lst xs) e
    obtain ⟨as, z, n1⟩ := DtAll.reads I t rv
    refine ⟨_, Reads.list ho rfl rfl z, fun no m => ?_⟩
    rcases no with no | no
    · rcases List.mem_cons.mp m with m | m
      · exact fr no m.symm
      · exact n1 (.inl no) m
    · simp [hasList] at no
  | _, _, _, .tup (a := a) (xs := xs) e t, r => by
    cases r
    obtain ⟨_, its, rv, o, ho, hc, n, hd⟩ := I.hok a (.tup xs) e
    obtain ⟨as, z, no⟩ := DtAll.reads I t rv
    exact ⟨_, Reads.tuple ho hc hd z, fun q => no (by simpa [hasList] using q)⟩
  | _, _, _, .dict (a := a) (kvs := kvs) e pr, r => by
    cases r
    obtain ⟨_, low, vs, kv, o, es, ep, ho, hx, hd, _, pa, _⟩ := dk_of I.hok e
    obtain ⟨z1, z2⟩ := dict_reads (h := s.heap) pr kv pa
    refine ⟨_, Reads.dict ho hx.1 hd z1 z2, fun _ m => ?_⟩
    rw [List.mem_append] at m
    rcases m with m | m
    · rcases List.mem_cons.mp m with m | m
      · rw [← m] at low
        simp at low
      · cases m
    · cases m
theorem DtAll.reads {far : Bool} (I : Inv X pins σ H s) : ∀ {ds : List PyData} {vs : List V} {us : List Value}, DtAll far H vs ds → Vals vs us → ∃ as, ReadsAll s.heap us ds as ∧ ((far = true ∨ hasListAll ds = false) → sysModules ∉ as)
  | _, _, _, .nil, r => by cases r; exact ⟨_, .nil, fun _ m => nomatch m⟩
  | _, _, _, .cons h t, r => by
    cases r with
    | cons r1 r2 =>
      obtain ⟨as, z1, n1⟩ := Dt.reads I h r1
      obtain ⟨bs, z2, n2⟩ := DtAll.reads I t r2
      refine ⟨_, .cons z1 z2, fun no m => ?_⟩
      simp only [hasListAll, Bool.or_eq_false_iff] at no
      rcases List.mem_append.mp m with m | m
      · exact n1 (no.imp id And.left) m
      · exact n2 (no.imp id And.right) m
end
end
/-- repr(x) of data -/
def rRep : List V → Hp → VK → Prop := fun xs H Q => ∃ x d far, xs = [x] ∧ Dt far H x d ∧ (d.hasDict = true → far = true ∨ hasList d = false) ∧ d.showable = true ∧ d.shown.length ≤ sizeLine ∧ d.depth ≤ 60 ∧ Q (.str d.shown) H
section
variable {X : Cx}
theorem call_repr {n : Nat} (room : Room n X.A) (gd : X.A.guards = some []) : CallR X (.builtin "repr") rRep := by
  intro pins s σ H xs us Q I r ho
  obtain ⟨x, d, far, rfl, dq, cl, sh, sz, dp, q⟩ := ho
  cases r with
  | @cons _ u _ ws rx rr =>
    cases rr
    obtain ⟨as, rd, no1⟩ := dq.reads I rx
    have nosys : d.hasDict = true → sysModules ∉ as := fun z => no1 (cl z)
    have un := room.un
    cases rd with
    | none =>
      exact P.repr_of_none ⟨.str _, H, I.tok _, ⟨_, rfl⟩, by simpa only [PyData.shown] using q⟩
    | bool b =>
      refine P.repr_of_bool ⟨.str _, H, I.tok _, ⟨_, rfl⟩, ?_⟩
      simp only [PyData.shown] at q
      cases b
      · exact q
      · exact q
    | int i t =>
      exact P.repr_of_int (by simpa [PyData.showable] using sh) ⟨.str _, H, I.tok _, ⟨_, rfl⟩, by simpa only [PyData.shown] using q⟩
    | str z t =>
      simp only [PyData.shown] at q sz
      exact P.repr_of_str ⟨.str _, H, I.tok _, ⟨_, rfl⟩, q⟩ sz
    | list h1 h2 h3 h4 =>
      exact repr_of_reads' (Reads.list h1 h2 h3 h4) sh nosys gd (by omega) (fun _ _ z => z) (fun h' u tk k => ⟨.str _, H, I.kept k, ⟨_, rfl⟩, q⟩) sz
    | tuple h1 h2 h3 h4 =>
      exact repr_of_reads' (Reads.tuple h1 h2 h3 h4) sh nosys gd (by omega) (fun _ _ z => z) (fun h' u tk k => ⟨.str _, H, I.kept k, ⟨_, rfl⟩, q⟩) sz
    | dict h1 h2 h3 h4 h5 =>
      exact repr_of_reads' (Reads.dict h1 h2 h3 h4 h5) sh nosys gd (by omega) (fun _ _ z => z) (fun h' u tk k => ⟨.str _, H, I.kept k, ⟨_, rfl⟩, q⟩) sz
end
/-! ### the law's own end -/
theorem hidT_ns {h : Heap} {H : Hp} {b : Addr} {m : Str → Option Value} (z : h.Ns b m) (free : ∀ (o : Obj) (es : Array DictEntry) (ep : Nat), h.get? b = some o → o.data = .dict es ep → H b = none) : (hidT h H).Ns b m := by
  obtain ⟨o, es, ep, e, d, r⟩ := z
  exact ⟨o, es, ep, hidT_get e (free o es ep e d), d, r⟩
theorem lawG_call {P : Program} {w : World} {K : PySem.W.Frag} {mg mb : Str → Option Value} {CT : CXT} {n : Nat} {fa a : Addr} {fd : FuncData} {x : Str} {sp : Sp} {s₁ : Shared} {vs : List Value} {ns : List Int}
    (atK : K.In s₁.heap) (glob : s₁.heap.Ns mainGlobals mg) (blt : s₁.heap.Ns builtinsNs mb) (boot : ∀ x : Str, x ≠ "__name__" → mb x = bootBuiltins x) (lim : s₁.heap.NoLimit) (gens : s₁.gens = #[])
    (ob : s₁.heap.get? a = some { cls := .type "list", data := .seq vs.toArray }) (nums : IntsAre vs ns) (len : ns.length ≤ sizeLine) (room : Room n callerA)
    (F : ∀ base : Heap, K.In base → base.Ns mainGlobals mg → FnG P w K mg base CT n fa fd [x] sp) (bi : ∀ (s : Shared) (u : Value), BindsTo s fd ⟨[u], []⟩ [(x, u)])
    (ho : ∀ H : Hp, Only H → SqL K H a (ns.map V.int) → sp [.ref a] H (fun v _ => v = .bl true) fun _ _ _ => False)
    (none_out : ∀ H e s', CT [] H s₁ (fun _ _ _ => False) e s' → False) :
    codeAny (model P w) callerA (.call (.ref fa) ⟨[.ref a], []⟩) (fun r s' => r = .ok (.ret (.bool true)) ∧ OldK s₁.heap s'.heap ∧ s'.os = s₁.os ∧ AllBare s'.gens) s₁ := by
  have main : ∀ H : Hp, Only H → SqL K H a (ns.map V.int) → HOk P w H s₁.heap → (∀ b, b ≠ a → H b = none) → (K.lookup a = none ∨ H a = none) →
      codeAny (model P w) callerA (.call (.ref fa) ⟨[.ref a], []⟩) (fun r s' => r = .ok (.ret (.bool true)) ∧ OldK s₁.heap s'.heap ∧ s'.os = s₁.os ∧ AllBare s'.gens) s₁ := by
    intro H only sq hok off at_
    have free : ∀ (b : Addr) (o : Obj) (es : Array DictEntry) (ep : Nat), s₁.heap.get? b = some o → o.data = .dict es ep → H b = none := by
      intro b o es ep e d
      by_cases hb : b = a
      · rw [hb, ob] at e
        cases e
        cases d
      · exact off b hb
    have inB : K.In (hidT s₁.heap H) := by
      intro b o e
      refine hidT_get (atK b o e) ?_
      by_cases hb : b = a
      · rcases at_ with z | z
        · rw [hb, z] at e
          cases e
        · rw [hb]
          exact z
      · exact off b hb
    have nsB : (hidT s₁.heap H).Ns mainGlobals mg := hidT_ns glob (free _)
    obtain ⟨mc, l1, l2⟩ := lim
    have mod : L2.Mod K mg (hidT s₁.heap H) := ⟨inB, nsB, ⟨mb, hidT_ns blt (free _), boot⟩, ⟨mc, hidT_ns l1 (free _), l2⟩⟩
    have en : Env0 P w K mg (hidT s₁.heap H) callerA [] s₁ H :=
      ⟨rfl, mod, fun b o z => of_hidT z, Nat.le_of_eq (hidT_size _ _), trivial, fun b z => (List.not_mem_nil z).elim, hok, .of_eq gens⟩
    refine codeAny_mono ((F _ inB nsB).goes callerA [] s₁ H ⟨[.ref a], []⟩ [.ref a] [.ref a] _ _ room rfl en (bi s₁ (.ref a)) (.cons rfl .nil) (ho H only sq)) ?_
    intro r s' z
    match r, z with
    | .error er, z => exact (none_out H er s' z).elim
    | .ok (.ret u), z =>
      obtain ⟨v, G, os, bare, un, hok', rel, rfl⟩ := z
      cases rel
      refine ⟨rfl, OldK.of_keep fun b o e => ?_, os, bare⟩
      rcases only b with q | ⟨ob2, ys, q⟩
      · exact un.keep b o e q (fun z => List.not_mem_nil z) (fun z => List.not_mem_nil z)
      · have e1 := (hok b _ q).1
        have e2 := (hok' b _ (un.frzs b ob2 _ q)).1
        rw [e] at e1
        cases e1
        exact e2
  cases there : K.lookup a with
  | some o =>
    have e := (atK a o there).symm.trans ob
    cases e
    exact main (fun _ => none) (fun _ => .inl rfl) (.inr ⟨_, vs.toArray, _, there, rfl, rfl, rfl, by rw [List.size_toArray, nums.length]; exact len, by simpa using vals_ints nums⟩) (fun b u z => nomatch z) (fun _ _ => rfl) (.inr rfl)
  | none =>
    refine main (upd (fun _ => none) a (.frz { cls := .type "list", data := .seq vs.toArray } (.lst (ns.map V.int)))) (fun b => ?_) (.inl (.inr ⟨_, upd_same⟩)) (fun b u z => ?_) (fun b hb => upd_ne hb) (.inl there)
    · by_cases hb : b = a
      · rw [hb]
        exact .inr ⟨_, _, upd_same⟩
      · exact .inl (upd_ne hb)
    · by_cases hb : b = a
      · rw [hb, upd_same] at z
        cases z
        rw [hb]
        exact ⟨ob, by rw [List.length_map]; exact len, vs, _, vals_ints nums, ob⟩
      · rw [upd_ne hb] at z
        cases z
theorem walkG {l : PySem.W.OpenLaw} {m n : Nat} {q : Program} {loose : List Str} {XP : (Str → Option Value) → Heap → Prop} {YP : World → Heap → Prop} {d : DefRec} {K : Params → PySem.W.Frag} {CT : World → CXT} {sp : World → Sp} {x : Str}
    (most : l.most = some m) (fits : m ≤ sizeLine) (nodef : d.params.defaults = []) (room : Room n callerA) (inn : ∀ (w : World) (h : Heap), YP w h → (K w.params).In h)
    (F : ∀ (w : World) (mg : Str → Option Value) (fa : Addr) (h : Heap), (K w.params).In h → h.Ns mainGlobals mg → mg d.name = some (.ref fa) →
      ∃ fd : FuncData, (∀ (s : Shared) (u : Value), BindsTo s fd ⟨[u], []⟩ [(x, u)]) ∧ ∀ base : Heap, (K w.params).In base → base.Ns mainGlobals mg → FnG l.prog w (K w.params) mg base (CT w) n fa fd [x] (sp w))
    (ho : ∀ (w : World) (H : Hp) (a : Addr) (ns : List Int), ns.length ≤ m → Only H → SqL (K w.params) H a (ns.map V.int) → sp w [.ref a] H (fun v _ => v = .bl true) fun _ _ _ => False)
    (none_out : ∀ (w : World) (H : Hp) (s : Shared) (e : Value) (s' : Shared), CT w [] H s (fun _ _ _ => False) e s' → False) :
    PySem.W.WalkO q loose XP YP l.row.toRowW d [] (fun f vs => PySem.call f vs) := by
  refine Att.attach_call most nodef ?_
  intro w s₀ s₁ mg mb fa o pm cd doc a vs ns G Y _ _ _ isAt ob nums len gens
  obtain ⟨fd, bi, good⟩ := F w mg fa _ (inn w _ Y) G.T.g isAt
  exact lawG_call (inn w _ Y) G.T.g G.T.b G.T.builtins G.T.nolimit gens ob nums (Nat.le_trans len fits) room good bi (fun H h1 h2 => ho w H a ns len h1 h2) fun H e s' => none_out w H s₁ e s'
end PSG

set_option Elab.async false
set_option linter.all false
set_option maxRecDepth 100000
set_option maxHeartbeats 4000000
namespace PSG
open PySem PySem.Spec L2
open PyProof.Rows (IntsAre AllBare)
/-! ### try with several clauses, names or pairs of names as their classes, with or without «as» -/
theorem upToSlots_more {h h' : Heap} (k : ∀ q o, h.get? q = some o → h'.get? q = some o) : h.UpToSlots h' := fun b o e _ => ⟨o.slots, k b o e⟩
theorem flying_more {base h h' : Heap} {l : List Env} {e : Addr} {Z : Obj → Prop} (x : PySem.HandSPX.FlyingZ base l e Z h) (k : ∀ q o, h.get? q = some o → h'.get? q = some o) : PySem.HandSPX.FlyingZ base l e Z h' := by
  obtain ⟨st, nb, ff, oe, vs, T, oT, ts, he, z, hv, h1, hT, ne, gT, hts, h3⟩ := x
  exact ⟨fun b o q => k b o (st b o q), nb, ff.of_keeps fun b o q _ => ⟨o, k b o q, rfl⟩, oe, vs, T, oT, ts, k _ _ he, z, hv, h1, hT, ne, k _ _ gT, hts, h3⟩
/-- the test of a clause: ok tells of which classes it is answered how -/
def Asks (X : Cx) (t : Expr) (ok : Value → Bool → Prop) : Prop :=
  ∀ (a : Addr) (oe : Obj) (cls : Value) (d : Option Addr) (pn pins : List (Addr × Obj)) (σ : L2.St) (H : Hp) (s : Shared) (Q : Value → Shared → Prop) (E : Value → Shared → Prop) (b : Bool),
    Zc cls d oe → (∃ vs, oe.data = .fields vs) → Inv (X.suite a ((a, oe) :: pn)) pins σ H s → ok cls b →
    (∀ c h' tk, (∀ q o, s.heap.get? q = some o → h'.get? q = some o) → PySem.W.Looks (model X.prog X.w) h' (excMatches (.ref a) c) b → Q c { s with heap := h', toks := tk }) →
    wpAny (model X.prog X.w) (X.A.mark (some (.ref a))) (eval t X.env) Q E s
section
variable {X : Cx}
theorem name_is {x : Str} {c : Value} {np : Pos} (hc : Names X x c) {a : Addr} {pn pins : List (Addr × Obj)} {σ : L2.St} {H : Hp} {s : Shared} {Q : Value → Shared → Prop} {E : Value → Shared → Prop}
    (I : Inv (X.suite a pn) pins σ H s) (q : Q c s) : wpAny (model X.prog X.w) (X.A.mark (some (.ref a))) (eval (.Name x np) X.env) Q E s := by
  obtain ⟨g, nd, m | ⟨m, v, nn⟩⟩ := hc
  · exact ld_glob (X := X.suite a pn) I g m q nd
  · exact ld_blt (X := X.suite a pn) I g m v q nn nd
theorem exc_class {a : Addr} {oe : Obj} {cls : Value} {d : Option Addr} {pn pins : List (Addr × Obj)} {σ : L2.St} {H : Hp} {s : Shared} (z : Zc cls d oe) (I : Inv (X.suite a ((a, oe) :: pn)) pins σ H s) :
    PySem.W.Looks (model X.prog X.w) s.heap (typeOf (.ref a)) cls := fun A Q E s1 k q =>
  wpAny_typeOf_ref (k _ _ (I.pin (a, oe) (List.mem_append_left _ List.mem_cons_self)).1) (by rw [z.1]; exact q)
theorem asks_one {x : Str} {c : Value} {np : Pos} (hc : Names X x c) : Asks X (.Name x np) fun cls b => PySem.W.exmOne X.K cls c = some b := by
  intro a oe cls d pn pins σ H s Q E b z f I e q
  exact name_is hc I (q c s.heap s.toks (fun _ _ z => z) (PySem.W.exm_one (M := model X.prog X.w) I.kIn (exc_class z I) e))
theorem asks_two {x y : Str} {c e : Value} {p1 p2 tp : Pos} {kk : Nat} (hc : Names X x c) (he : Names X y e) : Asks X (.Tuple [.Name x p1, .Name y p2] kk tp) fun cls b => PySem.W.exmAny X.K cls [c, e] = some b := by
  intro a oe cls d pn pins σ H s Q E b z f I ok q
  refine wpAny_Tuple (wpAny_items_cons (name_is hc I (wpAny_items_cons (name_is he I (wpAny_items_nil ⟨by size_fits, ?_⟩)))))
  have more : ∀ q o, s.heap.get? q = some o → (s.heap.push { cls := .type "tuple", data := .seq [c, e].toArray }).get? q = some o := fun _ _ z => Heap.get?_push_of_some _ z
  exact q (.ref s.heap.objs.size) _ s.toks more (PySem.W.exm_tup2 (I.kIn.keeps more) ((exc_class z I).keeps more) (Heap.get?_push_size s.heap rfl) ok)
end
abbrev Cl := (Value → Bool → Prop) × Option Nat × (Addr → Value → Option Addr → TS)
def endsOf (n : Option Nat) (D : Ends) : Ends := match n with
  | none => D
  | some i => { nx := fun σ G => D.nx (σ.set i none) G, rt := D.rt, bk := fun σ G => D.bk (σ.set i none) G, ct := fun σ G => D.ct (σ.set i none) G }
def slotOf (n : Option Nat) (a : Addr) (σ : L2.St) : L2.St := match n with
  | none => σ
  | some i => σ.set i (some (.ref a))
/-- what the clauses wish of an exception of the body -/
def wCl (out : WX) (D : Ends) : List Cl → WX
  | [] => out
  | (ok, n, ts) :: r => fun cls d σ H => ∃ b, ok cls b ∧ (b = true → ∀ a, H a = none → ts a cls d (endsOf n D) (slotOf n a σ) H) ∧ (b = false → wCl out D r cls d σ H)
def SuiteOk (X : Cx) (body : List Stmt) (ts : Addr → Value → Option Addr → TS) : Prop :=
  ∀ (a : Addr) (oe : Obj) (cls : Value) (d : Option Addr) (pn : List (Addr × Obj)), Zc cls d oe → (∃ vs, oe.data = .fields vs) → PSs (X.suite a ((a, oe) :: pn)) body (ts a cls d)
inductive ClOk (X : Cx) : List ExceptHandler → List Cl → Prop
  | nil : ClOk X [] []
  | plain {t : Expr} {ok : Value → Bool → Prop} {ts : Addr → Value → Option Addr → TS} {b₀ : Stmt} {suite : List Stmt} {pos : Pos} {hs : List ExceptHandler} {l : List Cl} :
      Asks X t ok → SuiteOk X (b₀ :: suite) ts → ClOk X hs l → ClOk X (.ExceptHandler (some t) none (b₀ :: suite) pos :: hs) ((ok, none, ts) :: l)
  | named {t : Expr} {ok : Value → Bool → Prop} {i : Nat} {n : Str} {ts : Addr → Value → Option Addr → TS} {b₀ : Stmt} {suite : List Stmt} {pos : Pos} {hs : List ExceptHandler} {l : List Cl} :
      X.N.Nodup → X.N[i]? = some n → X.env.kindOf n = some .local → Asks X t ok → SuiteOk X (b₀ :: suite) ts → ClOk X hs l → ClOk X (.ExceptHandler (some t) (some n) (b₀ :: suite) pos :: hs) ((ok, some i, ts) :: l)
section
variable {X : Cx} {pins : List (Addr × Obj)} {D : Ends} {out : WX}
theorem clauses (ok : X.Ok) (one : X.stack = X.env :: X.outer) (own : X.env.frame = some X.env.locals) (tk : Takes X out) {a : Addr} {B : Heap} {sI : Shared} {σ : L2.St} {H : Hp} {cls : Value} {d : Option Addr}
    (J : Inv X pins σ H sI) (nb : ∀ b o, sI.heap.get? b = some o → b ∉ frs X.stack → B.get? b = some o) (na : H a = none) :
    ∀ {hs : List ExceptHandler} {l : List Cl}, ClOk X hs l → wCl out D l cls d σ H → ∀ s3 : Shared, PySem.HandSPX.FlyingZ B (X.env :: X.outer) a (Zc cls d) s3.heap → sI.heap.UpToSlots s3.heap → s3.os = sI.os → AllBare s3.gens →
      wpAny (model X.prog X.w) X.A (handleBy (.ref a) X.env hs) (SP X pins D) X.xe s3 := by
  intro hs l cl
  -- the exception's object, apart from all frames
  have apart : ∀ {h : Heap}, PySem.HandSPX.FlyingZ B (X.env :: X.outer) a (Zc cls d) h → ∃ oe vs, h.get? a = some oe ∧ Zc cls d oe ∧ oe.data = .fields vs ∧ a ≠ X.env.locals ∧ a ∉ X.fs := by
    intro h fl
    obtain ⟨oe, vs, e, z, dd⟩ := fl.there
    have no : a ∉ frs (X.env :: X.outer) := fun m => by
      obtain ⟨_, o2, e2, nf⟩ := fl.2.2.1.mem m
      rw [e] at e2
      cases e2
      exact nf _ dd
    refine ⟨oe, vs, e, z, dd, fun q => no ?_, fun m => no ?_⟩
    · exact List.mem_filterMap.mpr ⟨X.env, List.mem_cons_self, by rw [own, q]⟩
    · obtain ⟨en, h1, h2⟩ := List.mem_filterMap.mp m
      exact List.mem_filterMap.mpr ⟨en, List.mem_cons_of_mem _ h1, h2⟩
  have landed : ∀ {s3 : Shared}, PySem.HandSPX.FlyingZ B (X.env :: X.outer) a (Zc cls d) s3.heap → sI.heap.UpToSlots s3.heap → s3.os = sI.os → AllBare s3.gens → Inv X pins σ H s3 :=
    fun fl up os ag => J.landed nb fl.1 up os ag
  -- a suite that runs, from the state behind a test that is answered with yes
  have run : ∀ {b₀ : Stmt} {body : List Stmt} {ts : Addr → Value → Option Addr → TS} {σ2 : L2.St} {D2 : Ends} {s4 : Shared} {R : Flow → Shared → Prop} {E : Value → Shared → Prop} {oe : Obj}, SuiteOk X (b₀ :: body) ts →
      Zc cls d oe → (∃ vs, oe.data = .fields vs) → Inv (X.suite a ((a, oe) :: (X.pn ++ pins))) [] σ2 H s4 → ts a cls d D2 σ2 H →
      (∀ f s5, SP (X.suite a ((a, oe) :: (X.pn ++ pins))) [] D2 f s5 → R f s5) → wpAny (model X.prog X.w) (X.A.mark (some (.ref a))) (execs (b₀ :: body) X.env) R E s4 := by
    intro b₀ body ts σ2 D2 s4 R E oe su z f S ho hq
    exact wpAny_mono ((su a oe cls d (X.pn ++ pins) z f).run [] s4 σ2 H D2 S ho) hq fun _ _ z => z.elim
  induction cl with
  | nil =>
    intro w s3 fl up os ag
    refine wpAny_handleBy_nil ?_
    obtain ⟨_, _, _, oe, vs, T, oT, ts, e, _, dd, h1, _⟩ := id fl
    unfold PySem.passOn
    refine wpAny_bind (wpAny_field e dd h1 ?_)
    rw [if_neg (by simp)]
    have last : wpAny (model X.prog X.w) X.A (setFlight (.ref a) X.env.frame) (fun _ s4 => wpAny (model X.prog X.w) X.A (throw (.ref a) : Sem Flow) (SP X pins D) X.xe s4) X.xe s3 := by
      rw [own]
      refine PySem.HandSPX.setFlight_upZ fl fun h4 f4 u4 => wpAny_throw (tk _ _ ⟨a, B, sI, pins, σ, H, cls, d, rfl, J, nb, up.trans u4, .inr (.inr (by rw [one]; exact f4)), na, os, ag, w⟩)
    first
      | exact wpAny_bind last
      | exact wpAny_bind (wpAny_pure (wpAny_bind last))
  | @plain t okc ts b₀ suite pos hs l ask su _ ih =>
    intro w s3 fl up os ag
    obtain ⟨b, hb, yes, no⟩ := w
    obtain ⟨oe, vs, e, z, dd, nL, nF⟩ := apart fl
    have S := (landed fl up os ag).suite e dd na nL nF
    refine PySem.W.exc_clause (ask a oe cls d (X.pn ++ pins) [] σ H s3 _ _ b z ⟨_, dd⟩ S hb fun c h4 t4 k4 lk => ⟨b, lk, ?_⟩)
    have fl4 := flying_more fl k4
    have up4 := up.trans (upToSlots_more k4)
    cases b with
    | false => exact ih (no rfl) { s3 with heap := h4, toks := t4 } fl4 up4 os ag
    | true =>
      rw [if_pos rfl]
      refine PySem.HandSPX.lands_againZ (s := { s3 with heap := h4, toks := t4 }) fl4 fun h5 fl5 up5 => ?_
      obtain ⟨oe5, vs5, e5, z5, dd5, nL5, nF5⟩ := apart fl5
      have S5 := (landed (s3 := { s3 with heap := h5, toks := t4 }) fl5 (up4.trans up5) os ag).suite e5 dd5 na nL5 nF5
      refine run su z5 ⟨_, dd5⟩ S5 (yes rfl a na) fun f s6 hs6 => ?_
      cases f with
      | next => obtain ⟨σ6, H6, S6, q⟩ := hs6; exact ⟨σ6, H6, S6.unsuite ok, q⟩
      | brk => obtain ⟨σ6, H6, S6, q⟩ := hs6; exact ⟨σ6, H6, S6.unsuite ok, q⟩
      | cont => obtain ⟨σ6, H6, S6, q⟩ := hs6; exact ⟨σ6, H6, S6.unsuite ok, q⟩
      | ret u => obtain ⟨v, σ6, H6, S6, r, q⟩ := hs6; exact ⟨v, σ6, H6, S6.unsuite ok, r, q⟩
  | @named t okc i n ts b₀ suite pos hs l nd hi loc ask su _ ih =>
    intro w s3 fl up os ag
    obtain ⟨b, hb, yes, no⟩ := w
    obtain ⟨oe, vs, e, z, dd, nL, nF⟩ := apart fl
    have S := (landed fl up os ag).suite e dd na nL nF
    refine PySem.W.exc_clause_as (ask a oe cls d (X.pn ++ pins) [] σ H s3 _ _ b z ⟨_, dd⟩ S hb fun c h4 t4 k4 lk => ⟨b, lk, ?_⟩)
    have fl4 := flying_more fl k4
    have up4 := up.trans (upToSlots_more k4)
    cases b with
    | false => exact ih (no rfl) { s3 with heap := h4, toks := t4 } fl4 up4 os ag
    | true =>
      rw [if_pos rfl]
      refine PySem.HandSPX.lands_againZ (s := { s3 with heap := h4, toks := t4 }) fl4 fun h5 fl5 up5 => ?_
      obtain ⟨oe5, vs5, e5, z5, dd5, nL5, nF5⟩ := apart fl5
      have S5 := (landed (s3 := { s3 with heap := h5, toks := t4 }) fl5 (up4.trans up5) os ag).suite e5 dd5 na nL5 nF5
      refine store_ok (X := X.suite a ((a, oe5) :: (X.pn ++ pins))) (v := .ref a) S5 nd hi (.inl loc) rfl (fun s6 S6 => ?_) (.inr loc)
      refine run su z5 ⟨_, dd5⟩ S6 (yes rfl a na) fun f s7 hs7 => ?_
      cases f with
      | next => obtain ⟨σ7, H7, S7, q⟩ := hs7; exact gone_ok (S7.unsuite ok) nd hi loc fun s8 J8 => ⟨_, H7, J8, q⟩
      | brk => obtain ⟨σ7, H7, S7, q⟩ := hs7; exact gone_ok (S7.unsuite ok) nd hi loc fun s8 J8 => ⟨_, H7, J8, q⟩
      | cont => obtain ⟨σ7, H7, S7, q⟩ := hs7; exact gone_ok (S7.unsuite ok) nd hi loc fun s8 J8 => ⟨_, H7, J8, q⟩
      | ret u => obtain ⟨v, σ7, H7, S7, r, q⟩ := hs7; exact gone_ok (S7.unsuite ok) nd hi loc fun s8 J8 => ⟨v, _, H7, J8, r, q⟩
theorem ps_tryCl {body : List Stmt} {h₀ : ExceptHandler} {hs : List ExceptHandler} {l : List Cl} {pos : Pos} {tb : WX → TS} (one : X.stack = X.env :: X.outer) (own : X.env.frame = some X.env.locals) (tk : Takes X out)
    (der : ∀ (W : WX) (pn : List (Addr × Obj)) (xe : Value → Shared → Prop), Takes (X.tr pn xe) W → PassesOwn (model X.prog X.w) X.A X.env xe → PSs (X.tr pn xe) body (tb W)) (cl : ClOk X (h₀ :: hs) l) :
    PS X (.Try body (h₀ :: hs) [] [] pos) fun D σ H => tb (wCl out D l) D σ H where
  run := by
    intro pins s σ H D I ho
    have ok := I.ok
    have fr : X.A.frames = some (X.env :: X.outer) := ok.frames.trans (by rw [one])
    refine wpAny_Try_except (wpAny_mono ((der (wCl out D l) (X.pn ++ pins) _ ?_ PassesOwn.looking).run [] s σ H D (I.toTry _) ho) (fun f s1 hs1 => ?_) fun e s1 z => z)
    · intro u s2 xx
      obtain ⟨a, B, sI, pins2, σ2, H2, cls, d, rfl, J2, nb, up, sky, na, os, ag, w⟩ := xx
      have J : Inv X pins σ2 H2 sI := J2.ofTry ok
      have sky2 : Sky B (X.env :: X.outer) a (Zc cls d) X.env.locals s2.heap := by rw [← one]; exact sky
      exact Sky.land Zc.steady fr own sky2 fun h3 fl3 up3 => clauses ok one own tk J nb na cl w { s2 with heap := h3 } fl3 (up.trans up3) os ag
    · cases f with
      | next => obtain ⟨σ1, H1, J, q⟩ := hs1; exact wpAny_execs_nil ⟨σ1, H1, J.ofTry ok, q⟩
      | brk => obtain ⟨σ1, H1, J, q⟩ := hs1; exact ⟨σ1, H1, J.ofTry ok, q⟩
      | cont => obtain ⟨σ1, H1, J, q⟩ := hs1; exact ⟨σ1, H1, J.ofTry ok, q⟩
      | ret u => obtain ⟨v, σ1, H1, J, r, q⟩ := hs1; exact ⟨v, σ1, H1, J.ofTry ok, r, q⟩
end
end PSG

set_option Elab.async false
set_option linter.all false
set_option maxRecDepth 100000
set_option maxHeartbeats 4000000
namespace PySem.W
open PySem PySem.Spec PySem.Calls PyProof.Rows
/-! ### isinstance of an exception of an own class, with or without attributes -/
/-- what the class must say -/
structure XcC (K : Frag) (D : Addr) : Prop where
  get : findIn K (.ref D) "__getattribute__" = some (some (.builtin "BaseException.__getattribute__"))
  get2 : findIn K (.ref D) "__getattr__" = some none
  exc : subIn K (.ref D) (.type "BaseException") = some true
  dict : hasDictIn K D = true
  cls : findIn K (.ref D) "__class__" = some (some (.builtin "object.__class__"))
  desc : specialIn K (.builtin "object.__class__") "__get__" = some (some (.builtin "getset_descriptor.__get__"))
  data : takesIn K (.builtin "object.__class__") = some true
  obj : mroIn K D (.type "object") = some true
theorem XcC.there {K : Frag} {D : Addr} (T : XcC K D) : ∃ o cd, K.lookup D = some o ∧ o.data = .cls cd := by
  obtain ⟨c1, e, _⟩ := any_some T.dict
  unfold clsIn at e
  cases q : K.lookup D with
  | none =>
    rw [q] at e
    cases e
  | some o =>
    obtain ⟨oc, od, dt, sl⟩ := o
    cases dt <;> (rw [q] at e; first | exact ⟨_, _, rfl, rfl⟩ | cases e)
section
variable {prog : Program} {w : World} {A : Around} {E : Value → Shared → Prop} {s : Shared} {K : Frag} {x D : Addr} {ox : Obj} {od : Option Obj}
theorem XcC.asked {Q : Option Value → Shared → Prop} (T : XcC K D) (X : K.In s.heap) (I : InstAt s.heap x ox D od) (ho : Q (some (.ref D)) { s with toks := s.toks + 1 }) :
    wpAny (model prog w) A (getAttr? (.ref x) "__class__") Q E s := by
  have found : findObj K D od "__class__" = some (.bind (.builtin "getset_descriptor.__get__") (.builtin "object.__class__")) := by
    obtain ⟨cd, c, _⟩ := any_some T.dict
    unfold findObj
    simp [c, T.cls, T.desc, T.data]
  obtain ⟨hp, g, dr, t, os⟩ := s
  have k1 := I.type (M := model prog w)
  have k2 := looks_findIn (M := model prog w) X T.get
  have k3 := looks_findIn (M := model prog w) X T.get2
  have k4 := looks_find (M := model prog w) X I found
  have k5 : Looks (model prog w) hp (isInstance (.ref x) (.type "BaseException")) true := k1.andThen (looks_subIn X T.exc)
  have no : (onTheHeap (Value.ref D) && Value.builtin "BaseException.__getattribute__" == Value.builtin "object.__getattribute__") = false := by
    show (Value.builtin "BaseException.__getattribute__" == Value.builtin "object.__getattribute__") = false
    decide +kernel
  have no2 : (false && onTheHeap (Value.builtin "BaseException.__getattribute__")) = false := rfl
  unfold getAttr?
  unfold getAttrBy?
  unfold getAttrBy
  refine wpAny_bind (wpAny_mkText (wpAny_bind (wpAny_attempt (wpAny_holding (wpAny_bind (k1.at (wpAny_bind (k2.at ?_))))))))
  show wpAny _ _ (if (onTheHeap (Value.ref D) && Value.builtin "BaseException.__getattribute__" == Value.builtin "object.__getattribute__") = true then _ else _) _ _ _
  rw [no]
  rw [if_neg (by decide)]
  unfold getAttrByItsOwn
  unfold hookBefore
  refine wpAny_bind ?_
  rw [if_pos (show onTheHeap (.ref D) = true from rfl)]
  refine k3.at (wpAny_bind (wpAny_attempt (wpAny_holding ?_)))
  unfold callGetattribute
  rw [no2]
  rw [if_neg (by decide)]
  unfold boundAndCalled
  rw [F.excAttr_ValueError.ga.bind (.ref x)]
  refine wpAny_bind (wpAny_pure ?_)
  show wpAny _ _ (call (.builtin "BaseException.__getattribute__") [.ref x, .str "__class__" t]) _ _ _
  refine wpAny_call (codeAny_call_builtin F.excAttr_ValueError.ga.plain F.entry_bexc_ga (@check_slot (model prog w) _ _ ⟨hp, g, dr, t + 1, os⟩ "BaseException.__getattribute__" "BaseException" "__getattribute__" (.ref x) [.str "__class__" t] [] _
    (by decide +kernel) (by decide +kernel) k5 (F.args_bexc_ga (.ref x) (.str "__class__" t)) ?_))
  unfold Builtin.«object.__getattribute__»
  refine wpAny_bind (wpAny_of_eq (a := ((Value.ref x : Value), [Value.str "__class__" t])) (by first | rfl | (simp only [slotArgs]; rfl)) (wpAny_bind (wpAny_pure (wpAny_bind (k1.at (wpAny_bind (k4.at ?_)))))))
  show wpAny _ _ (holding [Value.builtin "object.__class__"] (call (.builtin "getset_descriptor.__get__") [.builtin "object.__class__", .ref x, .ref D]) >>= ret) _ _ _
  refine wpAny_bind (wpAny_holding (wpAny_call (class_get (s := ⟨hp, g, dr, t + 1, os⟩) X I T.obj (wpAny_pure ?_))))
  show wpAny _ _ (handedOut (.ref D)) _ _ _
  rw [handedOut_of (v := .ref D) rfl]
  first
    | exact wpAny_pure ho
    | exact wpAny_pure (wpAny_pure ho)
    | exact wpAny_pure (wpAny_bind (wpAny_pure (wpAny_pure ho)))
theorem XcC.kit (T : XcC K D) : KitX K (.ref x) (.ref D) (fun h => ∃ od, InstAt h x ox D od) where
  ty := fun _ _ _ ⟨_, I⟩ => I.type
  it := fun M h X _ => by
    obtain ⟨o, cd, q, dd⟩ := T.there
    intro A2 Q2 E2 s2 k ho
    unfold isType
    unfold loadHead
    exact wpAny_bind (wpAny_loadPart (k _ _ (X _ _ q)) (by rw [dd]; exact wpAny_pure ho))
  ne := fun h tp dd its n sl X at_ => by
    obtain ⟨o, cd, q, d2⟩ := T.there
    cases z : (Value.ref D == Value.ref tp) with
    | false => rfl
    | true =>
      have e : D = tp := Value.ref.inj (beq_iff_eq.mp z)
      rw [← e, X _ _ q] at at_
      cases at_
      cases d2
  ca := fun X ⟨_, I⟩ ho => T.asked X I ho
end
end PySem.W

set_option Elab.async false
set_option linter.all false
set_option maxRecDepth 100000
set_option maxHeartbeats 4000000
/-! ### exceptions of own classes over any built-in base, as values -/
namespace PySem.XV
open PySem PySem.Spec PySem.W PySem.Calls PySem.HandSPX
section
variable {prog : Program} {w : World} {A : Around} {E : Value → Shared → Prop} {R : Result → Shared → Prop} {h : Heap} {g : Array GenState} {d : Drawn} {t : Nat} {os : OsState}
variable {nm q : Str} {C N : Addr} {bs bm bmB : List Value} {hdct : Bool} {sn : List Str} {sub : List Value} {ab : Bool} {col : Option Bool} {dd : Option Addr} {k0 k1 k2 k3 k5 : Option Value} {B newId initId : String}
theorem new_checked {M : Model} (F : ExcBaseFacts B newId initId bmB) (same : ∀ X : String, bm.contains (.type X) = bmB.contains (.type X)) {kw : List (Str × Value)} {Q : Unit → Shared → Prop}
    (at_ : h.get? C = some (excClassObj nm q C N bs bm hdct sn sub ab col dd k0 k1 k2 k3 k5 newId)) (ho : Q () ⟨h, g, d, t, os⟩) : wpAny M A (checkBuiltinCall newId ⟨[.ref C], kw⟩) Q E ⟨h, g, d, t, os⟩ := by
  have cB : (Value.ref C :: bm).contains (.type B) = true := by rw [List.contains_cons, same, F.hasB, Bool.or_true]
  have s0 := F.noStar
  simp only [checkBuiltinCall, F.newKind, F.newSplit, F.newRow]
  repeat (first
    | refine wpAny_loadPart_at at_ ?_
    | (refine wpAny_isSubtype_exc at_ ?_; rw [cB])
    | refine wpAny_staticBase_exc at_ ?_
    | refine wpAny_madeBy_exc at_ ?_
    | simp only [bne_self_eq_false, Bool.false_eq_true, if_false]
    | wp_step)
  exact ho
theorem new_kw (F : ExcBaseFacts B newId initId bmB) (same : ∀ X : String, bm.contains (.type X) = bmB.contains (.type X)) {kw : List (Str × Value)}
    (at_ : h.get? C = some (excClassObj nm q C N bs bm hdct sn sub ab col dd k0 k1 k2 k3 k5 newId))
    (ho : R (.ok (.ret (.ref (h.objs.size + 1)))) ⟨(h.push { cls := .type "tuple", data := .seq #[] }).push { cls := .ref C, data := .fields #[.ref h.objs.size, .none, .none, .none, .bool false, .none] }, g, d, t, os⟩) :
    codeAny (model prog w) A (.builtin newId ⟨[.ref C], kw⟩) R ⟨h, g, d, t, os⟩ := by
  have e0 := F.ends
  have cB : (Value.ref C :: bm).contains (.type B) = true := by rw [List.contains_cons, same, F.hasB, Bool.or_true]
  have cA : (Value.ref C :: bm).contains (.type "AttributeError") = false := by rw [List.contains_cons, same, F.noAttr]; rfl
  have cN : (Value.ref C :: bm).contains (.type "NameError") = false := by rw [List.contains_cons, same, F.noName]; rfl
  refine codeAny_builtinAt F.entry ?_
  unfold Builtin.«BaseException.__new__»
  refine wpAt_bind ?_
  show wpAt _ _ _ (stack >>= _) _ _ _
  refine wpAt_bind (wpAt_stack fun p below => wpAt_of_wpAny ?_)
  wp_walk
  refine wpAt_of_wpAny ?_
  rw [F.owner]
  repeat (first
    | with_reducible refine wpAny_madeHere_exc F.canon at_ ?_
    | with_reducible refine wpAny_loadPart_at at_ ?_
    | (with_reducible refine wpAny_isSubtype_exc at_ ?_; first | rw [cB] | rw [cA] | rw [cN])
    | wp_step)
  show R _ _
  rw [Heap.size_push]
  exact ho
theorem made_kw (F : ExcBaseFacts B newId initId bmB) (same : ∀ X : String, bm.contains (.type X) = bmB.contains (.type X)) {kw : List (Str × Value)} {fI : Addr} {Q : Fin → Shared → Prop}
    (at_ : h.get? C = some (excClassObj nm q C N bs bm hdct sn sub ab col dd k0 k1 k2 k3 k5 newId))
    (hi : W.Looks (model prog w) h (typeLookup (.ref C) "__init__") (some (.ref fI))) (hb : ∀ self, W.Looks (model prog w) h (bindSpecial (.ref fI) self) (.ref fI, [self]))
    (ho : codeAny (model prog w) A (.call (.ref fI) ⟨[.ref (h.objs.size + 1)], kw⟩)
      (fun r s' => match r with | .ok (.ret v) => v = .none ∧ Q (.done (.ret (.ref (h.objs.size + 1)))) s' | .ok _ => False | .error e => E e s')
      ⟨(h.push (W.kdv_tup [])).push (excO C h.objs.size), g, d, t, os⟩) :
    wpAny (model prog w) A (Builtin.«type.__call__» ⟨[.ref C], kw⟩) Q E ⟨h, g, d, t, os⟩ := by
  repeat (first | with_reducible refine wpAny_loadPart_at at_ ?_ | with_reducible refine wpAny_madeBy_exc at_ ?_ | wp_step)
  refine codeAny_call_builtin_code (Code.quiet_builtin _ F.quiet) (new_checked F same at_ (new_kw F same at_ ?_))
  show wpAny _ _ _ _ _ _
  have old : ∀ b o, h.get? b = some o → ((h.push (W.kdv_tup [])).push (excO C h.objs.size)).get? b = some o := fun b o e => Heap.get?_push_of_some _ (Heap.get?_push_of_some _ e)
  have at2 := old _ _ at_
  have new : ((h.push (W.kdv_tup [])).push (excO C h.objs.size)).get? (h.objs.size + 1) = some (excO C h.objs.size) := by heap_get
  have cC : (Value.ref C :: bm).contains (.ref C) = true := by simp
  have i1 := hi.keeps old
  have b1 := (hb (.ref (h.objs.size + 1))).keeps old
  unfold isInstance
  repeat (first | with_reducible refine wpAny_loadPart_at new ?_ | (with_reducible refine wpAny_isSubtype_exc at2 ?_; rw [cC]) | wp_step)
  show wpAny _ _ (typeLookup (.ref C) _) _ _ _
  refine i1.at (wpAny_holding (wpAny_bind (b1.at (wpAny_bind (wpAny_call (codeAny_mono ho fun r s' z => ?_))))))
  rcases r with e | (v | _ | _ | _) <;> first | exact z | exact z.elim | skip
  obtain ⟨rfl, z⟩ := z
  first
    | exact wpAny_pure (wpAny_pure z)
    | (wp_walk; exact z)
theorem call_kw (F : ExcBaseFacts B newId initId bmB) (same : ∀ X : String, bm.contains (.type X) = bmB.contains (.type X)) {kw : List (Str × Value)} {fI : Addr}
    (at_ : h.get? C = some (excClassObj nm q C N bs bm hdct sn sub ab col dd k0 k1 k2 k3 k5 newId))
    (hi : W.Looks (model prog w) h (typeLookup (.ref C) "__init__") (some (.ref fI))) (hb : ∀ self, W.Looks (model prog w) h (bindSpecial (.ref fI) self) (.ref fI, [self]))
    (ho : codeAny (model prog w) (A.under (.builtin "type.__call__" ⟨[.ref C], kw⟩)) (.call (.ref fI) ⟨[.ref (h.objs.size + 1)], kw⟩) (W.InitBack (h.objs.size + 1) R)
      ⟨(h.push (W.kdv_tup [])).push (excO C h.objs.size), g, d, t, os⟩) :
    codeAny (model prog w) A (.call (.ref C) ⟨[], kw⟩) R ⟨h, g, d, t, os⟩ := by
  have f1 := tc_lookup
  have f2 := tc_bind (.ref C)
  have isT : (⟨h, g, d, t, os⟩ : Shared).TypeIs (.ref C) "type" := ⟨_, at_, rfl⟩
  refine codeAny_of_tree ?_
  show wpAny _ _ (callAny (.ref C) _) _ _ _
  repeat (any_goals (first | assumption | with_reducible refine wpAny_loadPart_at at_ ?_ | wp_step))
  refine ⟨rfl, codeAny_call_builtin_at (Code.quiet_builtin _ (by decide +kernel)) entry_typeCall (wpAny_check_type_call_sub at_ (made_kw F same at_ hi hb (codeAny_mono ho fun r s' z => ?_)))⟩
  rcases r with e | (v | _ | _ | _) <;> exact z
end
end PySem.XV

set_option Elab.async false
set_option linter.all false
set_option maxRecDepth 100000
set_option maxHeartbeats 4000000
namespace PSG
open PySem PySem.Spec L2
open PyProof.Rows (IntsAre AllBare)
/-- what the written part says of an own exception class at C, whose __init__ is the def at fI -/
structure Xk (K : PySem.W.Frag) (C fI : Addr) (B newId initId : String) (bmB : List Value) : Prop where
  fb : ExcBaseFacts B newId initId bmB
  sf : StoreFacts B bmB "object.__setattr__" "object"
  made : PySem.W.excInitIn K C bmB newId = true
  over : PySem.W.excOver K C bmB = true
  dict : PySem.W.hasDictIn K C = true
  set : PySem.W.findIn K (.ref C) "__setattr__" = some (some (.builtin "object.__setattr__"))
  init : PySem.W.findIn K (.ref C) "__init__" = some (some (.ref fI))
  fn : PySem.W.typeIn K (.ref fI) = some (.type "function")
  keep : PySem.W.keepIn K (.ref C) = true
  exc : PySem.W.subIn K (.ref C) (.type "BaseException") = some true
  ty : PySem.W.typeIn K (.ref C) = some (.type "type")
/-- at a: an exception of the class at C with these attributes (the last one stored first) -/
def ExV (H : Hp) (a C : Addr) (fs : List (Str × V)) : Prop :=
  (fs = [] ∧ H a = some (exo a C none)) ∨ ∃ d, fs ≠ [] ∧ H a = some (exo a C (some d)) ∧ H d = some (exd d fs)
theorem ExV.same {H H' : Hp} {a C : Addr} {fs : List (Str × V)} (x : ExV H a C fs) (s : Same H H') : ExV H' a C fs := by
  rcases x with ⟨e, h⟩ | ⟨d, e, h, h2⟩
  · exact .inl ⟨e, s _ _ h⟩
  · exact .inr ⟨d, e, s _ _ h, s _ _ h2⟩
end PSG
namespace PySem.XV
open PySem PySem.Spec PySem.W PySem.Calls PySem.HandSPX Builtin Builtin.ObjectAttr
section
variable {prog : Program} {w : World} {A : Around} {E : Value → Shared → Prop} {R : Result → Shared → Prop} {hp : Heap} {g : Array GenState} {d : Drawn} {t : Nat} {os : OsState}
/-- self.name = v, the first one -/
theorem store_first {K : W.Frag} {B : String} {bmB : List Value} {name : Str} {tk : Tok} {v : Value} {x C : Addr} {fv : Array Value} (SF : StoreFacts B bmB "object.__setattr__" "object") (ov : excOver K C bmB = true) (hd : hasDictIn K C = true)
    (X : K.In hp) (hx : hp.get? x = some { cls := .ref C, data := .fields fv }) (ha : W.findIn K (.ref C) name = some none)
    (hq : ∀ h' tk' dx, (∀ b o, b ≠ x → hp.get? b = some o → h'.get? b = some o) → hp.objs.size ≤ dx → dx ≠ x → h'.get? x = some { cls := .ref C, dict := some dx, data := .fields fv } →
      h'.Ns1 dx (fun y => if y = name then some v else none) → R (.ok (.ret .none)) ⟨h', g, d, tk', os⟩) :
    codeAny (model prog w) A (.call (.builtin "object.__setattr__") ⟨[.ref x, .str name tk, v], []⟩) R ⟨hp, g, d, t, os⟩ := by
  have I : W.InstAt hp x { cls := .ref C, data := .fields fv } C none := ⟨hx, rfl, rfl, trivial⟩
  have ne : x ≠ hp.objs.size := Nat.ne_of_lt (Heap.lt_size hx)
  have tak : takerIn K C name = some none := by unfold takerIn; rw [ha]; rfl
  obtain ⟨cd, hcd, hh⟩ := any_some hd
  refine osa_openX SF X I ov tak fun b => ?_
  have lc : W.Looks (model prog w) hp (classData C) cd := W.looks_clsIn X hcd
  obtain ⟨nm, bs, mro, ns, qn, hdd, sn, sb, ab, col, del⟩ := cd
  dsimp only at hh
  subst hh
  show wpAny _ _ (storeInOwnDict (.ref x) (.ref C) (.str name tk) name v b) _ _ _
  unfold storeInOwnDict
  unfold ownDictForStores
  repeat (first
    | with_reducible refine store_in_new ?_ ?_
    | with_reducible refine wpAny_loadPart_at hx ?_
    | with_reducible refine lc.at ?_
    | wp_step)
  · exact ⟨_, #[], _, (Heap.get?_update_ne _ _ _ _ ne.symm).trans (Heap.get?_push_at rfl rfl), rfl, fun e he => absurd he (by simp), fun _ => rfl⟩
  · intro h' tk' hn' hs
    have hx1 : (hp.push { cls := .type "dict", data := .dict #[] }).get? x = some { cls := .ref C, data := .fields fv } := Heap.get?_push_of_some _ hx
    refine hq h' tk' hp.objs.size (fun c o hc ho => ?_) (Nat.le_refl _) ne.symm ((hs.2 x ne).trans (Heap.get?_update_self _ hx1 rfl)) hn'
    exact (hs.2 c (Nat.ne_of_lt (Heap.lt_size ho))).trans ((Heap.get?_update_ne _ _ _ _ hc).trans (Heap.get?_push_of_some _ ho))
/-- self.name = v, a further one -/
theorem store_next {K : W.Frag} {B : String} {bmB : List Value} {name : Str} {tk : Tok} {v : Value} {x C dx : Addr} {fv : Array Value} {m0 : Str → Option Value} {nl : List Str} (SF : StoreFacts B bmB "object.__setattr__" "object") (ov : excOver K C bmB = true) (hd : hasDictIn K C = true)
    (X : K.In hp) (hx : hp.get? x = some { cls := .ref C, dict := some dx, data := .fields fv }) (hns : hp.Ns1 dx m0) (hw : Within m0 nl) (hz : nl.length ≤ 1000) (ha : W.findIn K (.ref C) name = some none)
    (hq : ∀ h' tk', (∀ b o, b ≠ dx → hp.get? b = some o → h'.get? b = some o) → h'.Ns1 dx (fun y => if y = name then some v else m0 y) → R (.ok (.ret .none)) ⟨h', g, d, tk', os⟩) :
    codeAny (model prog w) A (.call (.builtin "object.__setattr__") ⟨[.ref x, .str name tk, v], []⟩) R ⟨hp, g, d, t, os⟩ := by
  obtain ⟨oD, _, _, hoD, _, _⟩ := hns.count hw
  have I : W.InstAt hp x { cls := .ref C, dict := some dx, data := .fields fv } C (some oD) := ⟨hx, rfl, rfl, hoD⟩
  have tak : takerIn K C name = some none := by unfold takerIn; rw [ha]; rfl
  obtain ⟨cd, hcd, hh⟩ := any_some hd
  refine osa_openX SF X I ov tak fun b => ?_
  have lc : W.Looks (model prog w) hp (classData C) cd := W.looks_clsIn X hcd
  obtain ⟨nm, bs, mro, ns, qn, hdd, sn, sb, ab, col, del⟩ := cd
  dsimp only at hh
  subst hh
  show wpAny _ _ (storeInOwnDict (.ref x) (.ref C) (.str name tk) name v b) _ _ _
  unfold storeInOwnDict
  unfold ownDictForStores
  repeat (first
    | with_reducible refine PySem.OEX.store_in_old hns hw hz ?_
    | with_reducible refine wpAny_loadPart_at hx ?_
    | with_reducible refine lc.at ?_
    | wp_step)
  exact fun h' tk' hn' hs => hq h' tk' (fun c o hc ho => (hs.2 c hc).trans ho) hn'
end
end PySem.XV
namespace PSG
open PySem PySem.Spec L2
open PyProof.Rows (IntsAre AllBare)
section
variable {X : Cx} {pins : List (Addr × Obj)} {σ : L2.St} {H : Hp} {s : Shared} {a C fI dx : Addr} {f : Str} {y : V} {u : Value} {fs : List (Str × V)} {Q : Unit → Shared → Prop} {E : Value → Shared → Prop} {A : Around} {B newId initId : String} {bmB : List Value}
theorem xset_first (T : Xk X.K C fI B newId initId bmB) (I : Inv X pins σ H s) (e : H a = some (exo a C none)) (no : PySem.W.findIn X.K (.ref C) f = some none) (ry : RelV y u)
    (ho : ∀ dx s', H dx = none → dx ≠ a → Inv X pins σ (upd (upd H dx (exd dx [(f, y)])) a (exo a C (some dx))) s' → Q () s') : wpAny (model X.prog X.w) A (setAttr (.ref a) f u) Q E s := by
  obtain ⟨t1, ob⟩ := exo_at I.hok e
  obtain ⟨hp, g, d, t, os⟩ := s
  refine PySem.W.set_plain I.kIn (ox := { cls := .ref C, dict := none, data := .fields #[.ref t1, .none, .none, .none, .bool false, .none] }) (od := none) ⟨ob, rfl, rfl, trivial⟩ T.set ?_
  refine PySem.XV.store_first T.sf T.over T.dict I.kIn ob no fun h' tk' dx k dn dne hx hn => ?_
  have free : H dx = none := I.hok.fresh dn
  have old : ∀ {b : Addr} {o : Obj}, hp.get? b = some o → b ≠ dx := fun {b o} q => Nat.ne_of_lt (Nat.lt_of_lt_of_le (Heap.lt_size q) dn)
  have off : ∀ {b : Addr}, H b = none → b ≠ a := fun {b} n z => by
    rw [z, e] at n
    cases n
  refine ho dx _ free dne (I.un (t' := tk') ?_ fun b o q => ?_)
  · exact {
      keep := fun b o q n _ _ => k b o (off n) q
      slot := fun b o q n _ _ => ⟨o.slots, k b o (off n) q⟩
      free := fun b o q n _ => (upd_ne (off n)).trans ((upd_ne (old q)).trans n)
      there := fun b o q _ => if hb : b = a then ⟨_, hb ▸ hx⟩ else ⟨o, k b o hb q⟩
      tups := fun b xs q => (upd_ne (at_ne e q exo_tup)).trans ((upd_ne (ne_of_none q free)).trans q)
      frzs := fun b o v q => (upd_ne (at_ne e q exo_frz)).trans ((upd_ne (ne_of_none q free)).trans q)
      tbls := fun b ps q => ⟨#[], by rw [upd_ne (at_ne e q exo_tbl), upd_ne (ne_of_none q free), q]; simp⟩ }
  · by_cases hb : b = a
    · rw [hb, upd_same] at q
      cases q
      rw [hb]
      exact exo_ok hx
    · rw [upd_ne hb] at q
      by_cases hd : b = dx
      · rw [hd, upd_same] at q
        cases q
        rw [hd]
        exact exd_ok hn (relO_put (fs := []) ry fun _ => True.intro)
      · rw [upd_ne hd] at q
        refine (I.hok b o q).stay (fun c v hc z => k c v ?_ z) (fun c hc => ?_) fun c xs hc => ?_
        · rcases hc with hc | hc
          · rw [hc]
            exact hb
          · exact at_ne e hc exo_own
        · rw [upd_ne (at_ne e hc exo_own), upd_ne (ne_of_none hc free)]
          exact hc
        · rw [upd_ne (at_ne e hc exo_tup), upd_ne (ne_of_none hc free)]
          exact hc
theorem xset_next (T : Xk X.K C fI B newId initId bmB) (I : Inv X pins σ H s) (e : H a = some (exo a C (some dx))) (ed : H dx = some (exd dx fs)) (hl : fs.length ≤ 900) (no : PySem.W.findIn X.K (.ref C) f = some none) (ry : RelV y u)
    (ho : ∀ s', Inv X pins σ (upd H dx (exd dx ((f, y) :: fs))) s' → Q () s') : wpAny (model X.prog X.w) A (setAttr (.ref a) f u) Q E s := by
  obtain ⟨t1, ob⟩ := exo_at I.hok e
  obtain ⟨mA, hns, rel⟩ := exd_at I.hok ed
  have hw := within_of rel
  obtain ⟨hp, g, d, t, os⟩ := s
  obtain ⟨oD, _, _, hoD, _, _⟩ := hns.count hw
  refine PySem.W.set_plain I.kIn (ox := { cls := .ref C, dict := some dx, data := .fields #[.ref t1, .none, .none, .none, .bool false, .none] }) (od := some oD) ⟨ob, rfl, rfl, hoD⟩ T.set ?_
  refine PySem.XV.store_next T.sf T.over T.dict I.kIn ob hns hw (by rw [List.length_map]; omega) no fun h' tk' k hn => ?_
  have hd : ∃ o, h'.get? dx = some o := by
    obtain ⟨o, _, _, e', _⟩ := hn
    exact ⟨o, e'⟩
  exact ho _ (I.write (t' := tk') (x := dx) (e := dx) (o := exd dx ((f, y) :: fs)) (by rw [ed]; exact True.intro) (.inl rfl) k hd (exd_ok hn (relO_put ry rel)))
end
/-- self.f = e in such an __init__ -/
def tXset (K : PySem.W.Frag) (f : Str) (to te : TE) : TS := fun D σ H => te σ H fun y H1 => to σ H1 fun x H2 => ∃ (a C fI : Addr) (B newId initId : String) (bmB : List Value), x = .ref a ∧ Xk K C fI B newId initId bmB ∧ PySem.W.findIn K (.ref C) f = some none ∧
  ((H2 a = some (exo a C none) ∧ ∀ dx, H2 dx = none → dx ≠ a → D.nx σ (upd (upd H2 dx (exd dx [(f, y)])) a (exo a C (some dx)))) ∨
    ∃ (dx : Addr) (fs : List (Str × V)), H2 a = some (exo a C (some dx)) ∧ H2 dx = some (exd dx fs) ∧ fs.length ≤ 900 ∧ D.nx σ (upd H2 dx (exd dx ((f, y) :: fs))))
section
variable {X : Cx} {o e : Expr} {to te : TE} {f : Str} {p' pos : Pos}
theorem ps_xset (ho : PE X o to) (he : PE X e te) (hs : swapsWith e (some (.Attribute o f p')) pos.line X.env = pure false := by rfl) : PS X (.Assign [.Attribute o f p'] e pos) (tXset X.K f to te) where
  run := fun pins s σ H D I h => by
    refine plainObj_wpAny_Assign_Attribute (thn (he.run pins s σ H _ I h) fun v s1 ⟨y, H1, I1, r1, q1⟩ => thn (ho.run pins s1 σ H1 _ I1 q1) fun u s2 ⟨x, H2, I2, r2, a, C, fI, B, newId, initId, bmB, ex, T, no, q⟩ => ?_) hs
    subst ex
    cases r2
    rcases q with ⟨ea, q⟩ | ⟨dx, fs, ea, ed, hl, q⟩
    · exact xset_first T I2 ea no r1 fun dx s' n ne J => ⟨σ, _, J, q dx n ne⟩
    · exact xset_next T I2 ea ed hl no r1 fun s' J => ⟨σ, _, J, q⟩
end
/-! ### the promise of such an __init__, and the call of the class -/
/-- the attributes fn of the new exception are the arguments -/
def spXI (C : Addr) (fn : List Str) : Sp := fun vs H Q _ => ∃ (a : Addr) (ws : List V), vs = .ref a :: ws ∧ ws.length = fn.length ∧ H a = some (exo a C none) ∧
  ∀ H2, (∀ b o, b ≠ a → H b = some o → H2 b = some o) → ExV H2 a C (fn.zip ws).reverse → Q .non H2
def tXmk (C : Addr) (fn : List Str) (t : TA) : TE := fun σ H Q => t σ H fun vs H1 => vs.length = fn.length ∧ fn.length ≤ 1000 ∧ ∀ a H2, H1 a = none → Same H1 H2 → ExV H2 a C (fn.zip vs).reverse → Q (.ref a) H2
section
variable {X : Cx} {CT : CXT} {x : Str} {C fI : Addr} {n : Nat} {fd : FuncData} {ps fn : List Str} {B newId initId : String} {bmB : List Value} {p pos : Pos}
/-- the new object, its __init__ called, tracked -/
theorem xmade {pins : List (Addr × Obj)} {σ : L2.St} {H1 : Hp} {hp : Heap} {g : Array GenState} {dr : Drawn} {tk : Nat} {os : OsState} {Q : VK} {args : Args} {us : List Value} {vs : List V} (T : Xk X.K C fI B newId initId bmB)
    (F : FnOk X.prog X.w X.K X.mg X.base CX0 n fI fd ps (spXI C fn)) (room : Room (n + 1) X.A) (I1 : Inv X pins σ H1 ⟨hp, g, dr, tk, os⟩) (lay : List Value) (kw : List (Str × Value))
    (bi : ∀ s : Shared, X.K.In s.heap → BindsTo s fd args (ps.zip (.ref (hp.objs.size + 1) :: us))) (va : Vals vs us) (len : vs.length = fn.length)
    (ho : ∀ a H2, H1 a = none → Same H1 H2 → ExV H2 a C (fn.zip vs).reverse → Q (.ref a) H2) :
    codeAny (model X.prog X.w) (X.A.under (.builtin "type.__call__" ⟨.ref C :: lay, kw⟩)) (.call (.ref fI) args)
      (PySem.W.InitBack (hp.objs.size + 1) fun r s' => match r with | .ok (.ret v) => EP X pins σ Q v s' | .ok _ => False | .error e => X.xe e s')
      ⟨(hp.push (PySem.W.kdv_tup lay)).push (PySem.HandSPX.excO C hp.objs.size), g, dr, tk, os⟩ := by
  have big : hp.objs.size ≤ hp.objs.size + 1 := Nat.le_succ _
  have free : H1 (hp.objs.size + 1) = none := I1.hok.fresh big
  have old : ∀ b o, hp.get? b = some o → ((hp.push (PySem.W.kdv_tup lay)).push (PySem.HandSPX.excO C hp.objs.size)).get? b = some o := fun b o e => Heap.get?_push_of_some _ (Heap.get?_push_of_some _ e)
  have new : ((hp.push (PySem.W.kdv_tup lay)).push (PySem.HandSPX.excO C hp.objs.size)).get? (hp.objs.size + 1) = some (PySem.HandSPX.excO C hp.objs.size) := by heap_get
  have I2 : Inv X pins σ (upd H1 (hp.objs.size + 1) (exo (hp.objs.size + 1) C none)) ⟨(hp.push (PySem.W.kdv_tup lay)).push (PySem.HandSPX.excO C hp.objs.size), g, dr, tk, os⟩ :=
    I1.laid (t' := tk) (a := hp.objs.size + 1) (o := exo (hp.objs.size + 1) C none) (h' := (hp.push (PySem.W.kdv_tup lay)).push (PySem.HandSPX.excO C hp.objs.size)) old big (exo_ok new)
  have va2 : Vals (V.ref (hp.objs.size + 1) :: vs) (Value.ref (hp.objs.size + 1) :: us) := .cons rfl va
  refine codeAny_mono (F.run _ X.stack _ _ args (Value.ref (hp.objs.size + 1) :: us) _ (fun v H2 => v = .non ∧ Q (.ref (hp.objs.size + 1)) H2) (fun _ _ _ => False) (room.make C lay kw) (I2.env0.make C lay kw) (bi _ I2.kIn) va2
    ⟨_, vs, rfl, len, upd_same, fun H2 k ex => ⟨rfl, ho _ H2 free (fun b o e => ?_) ex⟩⟩) fun r s' z => ?_
  · have nb : b ≠ hp.objs.size + 1 := ne_of_none e free
    exact k b o nb ((upd_ne nb).trans e)
  · match r, z with
    | .ok (.ret u), z =>
      obtain ⟨v, G, J, rel, ev, q⟩ := I2.after z
      subst ev
      exact ⟨rel, .ref (hp.objs.size + 1), G, J, rfl, q⟩
    | .ok .next, z => exact z.elim
    | .ok .brk, z => exact z.elim
    | .ok .cont, z => exact z.elim
    | .error er, z => exact z.elim
theorem pe_xmk {e : Expr} {es : List Expr} {t : TA} (T : Xk X.K C fI B newId initId bmB) (F : FnOk X.prog X.w X.K X.mg X.base CX0 n fI fd ps (spXI C fn)) (room : Room (n + 1) X.A) (bi : Binds X.K fd ps []) (hps : ps.length = fn.length + 1)
    (hg : Gl X x) (hm : X.mg x = some (.ref C)) (ha : PA X (e :: es) t) (nd : (x == ("__debug__" : Str)) = false := by decide)
    (se : starEach (e :: es) X.env = (false, eval e X.env) :: starEach es X.env := by rfl) (sn : (backTo pos (starEach es X.env)).any (·.1) = false := by rfl) :
    PE X (.Call (.Name x p) (e :: es) [] pos) (tXmk C fn t) where
  run := fun pins s σ H Q I h => by
    refine wpAny_Call_Name_kw (ld_glob I hg hm ?_ nd)
    refine PySem.W.callWith_K (h₀ := X.base) I.ok.mod.kin T.keep (thn (ha.run pos pins s σ H _ I h) fun us s1 ⟨vs, H1, I1, r1, hl, hz, q1⟩ => ⟨I1.kIn, ?_⟩) se sn
    show wpAny _ _ (call (.ref C) us) _ _ _
    obtain ⟨hp, g, dr, tk, os⟩ := s1
    obtain ⟨nm, N, qn, bs, bm, hdct, sn, sub, ab, col, dd, k0, k1, k2, k3, k5, hC, same⟩ := PySem.W.excInit_of I1.kIn T.made
    have lu : us.length = fn.length := r1.length.symm.trans hl
    refine wpAny_call (PySem.HandSPX.call_own T.fb same hC (PySem.W.looks_findIn I1.kIn T.init) (fun self => PySem.W.bind_fn I1.kIn self T.fn) (by rw [sizeLine_eq]; omega) ?_)
    refine codeAny_mono (xmade (Q := Q) T F room I1 us [] (args := ⟨Value.ref (hp.objs.size + 1) :: us, []⟩) (us := us) (fun s2 k2 => ?_) r1 hl q1) fun r s' z => ?_
    · have z := bi s2 (Value.ref (hp.objs.size + 1) :: us) k2 (by rw [List.append_nil, List.length_cons, lu, hps])
      rw [List.append_nil] at z
      exact z
    · exact z
theorem pe_xmk0 (T : Xk X.K C fI B newId initId bmB) (F : FnOk X.prog X.w X.K X.mg X.base CX0 n fI fd ps (spXI C [])) (room : Room (n + 1) X.A) (bi : Binds X.K fd ps []) (hps : ps.length = 1)
    (hg : Gl X x) (hm : X.mg x = some (.ref C)) (nd : (x == ("__debug__" : Str)) = false := by decide) : PE X (.Call (.Name x p) [] [] pos) (tXmk C [] tNil) where
  run := fun pins s σ H Q I h => by
    refine wpAny_Call_Name_kw (ld_glob I hg hm ?_ nd)
    refine PySem.W.callWith_K0 I.kIn T.keep ?_
    obtain ⟨hp, g, dr, tk, os⟩ := s
    obtain ⟨nm, N, qn, bs, bm, hdct, sn, sub, ab, col, dd, k0, k1, k2, k3, k5, hC, same⟩ := PySem.W.excInit_of I.kIn T.made
    refine wpAny_call (PySem.HandSPX.call_own T.fb same hC (PySem.W.looks_findIn I.kIn T.init) (fun self => PySem.W.bind_fn I.kIn self T.fn) (Nat.zero_le _) ?_)
    refine codeAny_mono (xmade (Q := Q) (vs := []) T F room I [] [] (args := ⟨[Value.ref (hp.objs.size + 1)], []⟩) (us := []) (fun s2 k2 => ?_) .nil rfl h.2.2) fun r s' z => z
    have z := bi s2 [Value.ref (hp.objs.size + 1)] k2 (by rw [List.append_nil, hps]; rfl)
    exact z
/-- C(k = v, ..), keywords alone -/
theorem pe_xmkK {kws : List Keyword} {ks : List Str} {t : TA} (T : Xk X.K C fI B newId initId bmB) (F : FnOk X.prog X.w X.K X.mg X.base CX0 n fI fd ps (spXI C fn)) (room : Room (n + 1) X.A)
    (bi : ∀ (s : Shared) (u : Value) (ws : List Value), X.K.In s.heap → ws.length = ks.length → BindsTo s fd ⟨[u], ks.zip ws⟩ (ps.zip (u :: ws))) (lk : ks.length = fn.length)
    (hg : Gl X x) (hm : X.mg x = some (.ref C)) (ha : PK X kws t) (hall : (backToKw pos (keywordEach kws X.env)).all (·.1.isSome) = true := by rfl) (hks : (backToKw pos (keywordEach kws X.env)).filterMap (·.1) = ks := by rfl)
    (nd : (x == ("__debug__" : Str)) = false := by decide) (sn : ((backTo pos (starEach [] X.env)).any (·.1) || (backToKw pos (keywordEach kws X.env)).any (·.1.isNone)) = false := by rfl) :
    PE X (.Call (.Name x p) [] kws pos) (tXmk C fn t) where
  run := fun pins s σ H Q I h => by
    refine wpAny_Call_Name_kw (ld_glob I hg hm ?_ nd)
    refine PySem.W.callWith_KW0 (h₀ := X.base) I.ok.mod.kin T.keep hall (thn (ha.run pos pins s σ H _ I h) fun ws s1 ⟨vs, H1, I1, r1, hl, hz, q1⟩ => ⟨I1.kIn, ?_⟩) sn
    rw [hks]
    show wpAny _ _ (call (.ref C) [] (ks.zip ws)) _ _ _
    obtain ⟨hp, g, dr, tk, os⟩ := s1
    obtain ⟨nm, N, qn, bs, bm, hdct, sn, sub, ab, col, dd, k0, k1, k2, k3, k5, hC, same⟩ := PySem.W.excInit_of I1.kIn T.made
    have lu : ws.length = ks.length := (r1.length.symm.trans hl).trans lk.symm
    refine wpAny_call (PySem.XV.call_kw T.fb same hC (PySem.W.looks_findIn I1.kIn T.init) (fun self => PySem.W.bind_fn I1.kIn self T.fn) ?_)
    exact codeAny_mono (xmade (Q := Q) T F room I1 [] (ks.zip ws) (args := ⟨[Value.ref (hp.objs.size + 1)], ks.zip ws⟩) (us := ws) (fun s2 k2 => bi s2 _ ws k2 lu) r1 hl q1) fun r s' z => z
end
end PSG

set_option Elab.async false
set_option linter.all false
set_option maxRecDepth 100000
set_option maxHeartbeats 4000000
namespace PSG
open PySem PySem.Spec L2
open PyProof.Rows (IntsAre AllBare)
section
variable {X : Cx} {pins : List (Addr × Obj)} {σ : L2.St} {H : Hp} {s : Shared} {a C : Addr} {fs : List (Str × V)}
theorem exv_inst (I : Inv X pins σ H s) (x : ExV H a C fs) : ∃ ox od, PySem.W.InstAt s.heap a ox C od ∧ ((fs = [] ∧ od = none) ∨ ∃ dx o, od = some o ∧ H dx = some (exd dx fs) ∧ s.heap.get? dx = some o) := by
  rcases x with ⟨e, h⟩ | ⟨d, e, h, h2⟩
  · obtain ⟨t1, ob⟩ := exo_at I.hok h
    exact ⟨_, none, ⟨ob, rfl, rfl, trivial⟩, .inl ⟨e, rfl⟩⟩
  · obtain ⟨t1, ob⟩ := exo_at I.hok h
    obtain ⟨mA, hns, rel⟩ := exd_at I.hok h2
    obtain ⟨o, ho, _⟩ := lookIn_ns hns
    exact ⟨_, some o, ⟨ob, rfl, rfl, ho⟩, .inr ⟨d, o, rfl, h2, ho⟩⟩
/-- e.n, e an exception that stands -/
def tXfld (K : PySem.W.Frag) (n : Str) (te : TE) : TE := fun σ H Q => te σ H fun x H1 => ∃ (a C : Addr) (fs : List (Str × V)) (v : V), x = .ref a ∧ ExV H1 a C fs ∧ PySem.W.XcC K C ∧ PySem.W.findIn K (.ref C) n = some none ∧ fs.lookup n = some v ∧ Q v H1
theorem pe_xfld {e : Expr} {te : TE} {pos : Pos} {n : Str} (he : PE X e te) (hb : attributeBase e n X.env (eval e X.env) = eval e X.env := by rfl) : PE X (.Attribute e n pos) (tXfld X.K n te) where
  run := fun pins s σ H Q I h => by
    refine attr_of hb (thn (he.run pins s σ H _ I h) fun u s1 hh => ?_)
    obtain ⟨x, H1, I1, rx, a, C, fs, v, ex, V1, T, no, l, q⟩ := hh
    subst ex
    cases rx
    rcases V1 with ⟨e, h1⟩ | ⟨d, _, h1, h2⟩
    · rw [e] at l
      cases l
    · obtain ⟨t1, ob⟩ := exo_at I1.hok h1
      obtain ⟨mA, hns, rel⟩ := exd_at I1.hok h2
      obtain ⟨o, ho, look⟩ := lookIn_ns hns
      obtain ⟨w, hw, rw_⟩ := RelO.some_of (v := v) (o := mA n) (by rw [← l]; exact rel n)
      have J : PySem.W.InstAt s1.heap a _ C (some o) := ⟨ob, rfl, rfl, ho⟩
      exact PySem.HandSPX.exc_get I1.kIn J T.get T.get2 T.exc (PySem.W.findObj_own T.dict no rfl (by rw [look, hw])) (handed_of rw_) ⟨v, H1, I1.tok _, rw_, q⟩
/-- isinstance(e, c), e an exception that stands -/
def rXis (K : PySem.W.Frag) : List V → Hp → VK → Prop := fun xs H Q => ∃ (a C : Addr) (fs : List (Str × V)) (c : V) (u : Value) (b : Bool), xs = [.ref a, c] ∧ ClsV c u ∧ ExV H a C fs ∧ PySem.W.XcC K C ∧ PySem.W.kitOne K (.ref C) u = some b ∧ Q (.bl b) H
theorem call_xis : CallR X (.builtin "isinstance") (rXis X.K) := by
  intro pins s σ H xs us Q I r h
  obtain ⟨a, C, fs, c, u, b, rfl, k, x, T, e, q⟩ := h
  obtain ⟨u1, u2, rfl, r1, r2⟩ := vals2 r
  cases r1
  have e2 := k.eq r2
  subst e2
  obtain ⟨ox, od, J, _⟩ := exv_inst I x
  exact PySem.W.kia_one (T.kit (x := a) (ox := ox)) I.kIn ⟨od, J⟩ e (fun z => nomatch z) fun tk => ⟨.bl b, H, I.tok tk, rfl, q⟩
end
/-! ### lists that are new: not sys.modules -/
def tLstF (t : TA) : TE := fun σ H Q => t σ H fun xs H1 => xs.length ≤ sizeLine ∧ ∀ p, H1 p = none → p ≠ sysModules → Q (.ref p) (upd H1 p (.lst xs))
def rCatF : R2 := fun x y H Q => ∃ l b xs zs, x = .ref l ∧ y = .ref b ∧ H l = some (.lst xs) ∧ H b = some (.lst zs) ∧ xs.length + zs.length ≤ sizeLine ∧ ∀ p, H p = none → p ≠ sysModules → Q (.ref p) (upd H p (.lst (xs ++ zs)))
section
variable {X : Cx}
theorem pe_lstF {es : List Expr} {t : TA} {pos : Pos} (h : PA X es t) : PE X (.List es pos) (tLstF t) where
  run := fun pins s σ H Q I ho => by
    refine wpAny_List (thn (h.run pos pins s σ H _ I ho) fun us s1 ⟨xs, H1, I1, r, hz, q⟩ => ?_)
    have hl := r.length
    have new : s1.heap.objs.size ≠ sysModules := Nat.ne_of_gt I1.big
    exact ⟨by omega, .ref s1.heap.objs.size, _, I1.lnew (t' := s1.toks) r hz, rfl, q _ I1.fresh new⟩
theorem op_catF : OpR X (binaryOp .Add) rCatF := by
  intro pins s σ H x y v u Q I rx ry ho
  obtain ⟨l, b, xs, zs, rfl, rfl, h1, h2, hz, q⟩ := ho
  cases rx
  cases ry
  obtain ⟨_, is, _, r, _, e⟩ := I.lstM h1
  obtain ⟨_, js, _, r2, _, e2⟩ := I.lstM h2
  have l1 := r.length
  have l2 := r2.length
  refine PySem.P.add_list e e2 ?_ (by rw [List.size_toArray, List.size_toArray]; omega)
  rw [show is.toArray ++ js.toArray = (is ++ js).toArray by simp]
  have new : s.heap.objs.size ≠ sysModules := Nat.ne_of_gt I.big
  exact ⟨.ref s.heap.objs.size, _, I.lnew (t' := s.toks) (r.append r2) (by rw [List.length_append]; omega), rfl, q _ I.fresh new⟩
end
/-! ### heaps, data, draws -/
/-- what is tracked now and was not then -/
def news (B H : Hp) : Hp := fun b => match B b with | none => H b | some _ => none
theorem news_at {B H : Hp} {b : Addr} {o : HO} (h : B b = none) (e : H b = some o) : news B H b = some o := by
  unfold news
  rw [h]
  exact e
theorem news_of {B H : Hp} {b : Addr} {o : HO} (e : news B H b = some o) : B b = none ∧ H b = some o := by
  unfold news at e
  cases q : B b with
  | none =>
    rw [q] at e
    exact ⟨rfl, e⟩
  | some u =>
    rw [q] at e
    cases e
theorem news_sub {B H : Hp} : Same (news B H) H := fun _ _ e => (news_of e).2
mutual
theorem Dt.same {far : Bool} {H H' : Hp} (s : Same H H') : ∀ {v : V} {d : PyData}, Dt far H v d → Dt far H' v d
  | _, _, .non => .non
  | _, _, .bl b => .bl b
  | _, _, .int i => .int i
  | _, _, .str x => .str x
  | _, _, .lst e f t => .lst (s _ _ e) f (DtAll.same s t)
  | _, _, .tup e t => .tup (s _ _ e) (DtAll.same s t)
  | _, _, .dict e p => .dict (s _ _ e) p
theorem DtAll.same {far : Bool} {H H' : Hp} (s : Same H H') : ∀ {vs : List V} {ds : List PyData}, DtAll far H vs ds → DtAll far H' vs ds
  | _, _, .nil => .nil
  | _, _, .cons h t => .cons (Dt.same s h) (DtAll.same s t)
end
theorem DtAll.length {far : Bool} {H : Hp} : ∀ {vs : List V} {ds : List PyData}, DtAll far H vs ds → vs.length = ds.length
  | _, _, .nil => rfl
  | _, _, .cons _ t => congrArg Nat.succ (DtAll.length t)
theorem DtAll.append {far : Bool} {H : Hp} : ∀ {vs ws : List V} {ds es : List PyData}, DtAll far H vs ds → DtAll far H ws es → DtAll far H (vs ++ ws) (ds ++ es)
  | _, _, _, _, .nil, h => h
  | _, _, _, _, .cons h t, h2 => .cons h (DtAll.append t h2)
theorem DtAll.get {far : Bool} {H : Hp} : ∀ {vs : List V} {ds : List PyData} {i : Nat} {v : V}, DtAll far H vs ds → vs[i]? = some v → ∃ d, ds[i]? = some d ∧ Dt far H v d
  | _, _, i, _, .nil, e => by simp at e
  | _, _, 0, _, .cons h _, e => by
    have e' := Option.some.inj e
    subst e'
    exact ⟨_, rfl, h⟩
  | _, _, i + 1, _, .cons _ t, e => DtAll.get (i := i) t e
/-- all but the object at r is as it was -/
def But (r : Addr) (H H' : Hp) : Prop := ∀ b o, b ≠ r → H b = some o → H' b = some o
theorem But.refl {r : Addr} {H : Hp} : But r H H := fun _ _ _ e => e
theorem But.trans {r : Addr} {H H1 H2 : Hp} (a : But r H H1) (b : But r H1 H2) : But r H H2 := fun c o n e => b c o n (a c o n e)
theorem But.of {r : Addr} {H H' : Hp} (s : Same H H') : But r H H' := fun b o _ e => s b o e
theorem But.at {r : Addr} {H : Hp} {o : HO} : But r H (upd H r o) := fun b _ n e => (upd_ne n).trans e
theorem same_new {H : Hp} {p : Addr} {o : HO} (h : H p = none) : Same H (upd H p o) := fun b x e => (upd_ne (ne_of_none e h)).trans e
/-- at r: the two numbers that the draws are made of -/
def Rg (H : Hp) (r : Addr) : Prop := ∃ x y : Int, H r = some (.lst [.int x, .int y]) ∧ 0 ≤ x ∧ 0 ≤ y ∧ y < 2147483587
theorem Rg.some {H : Hp} {r : Addr} (g : Rg H r) : ∃ o, H r = some o := by
  obtain ⟨x, y, e, _⟩ := g
  exact ⟨_, e⟩
theorem Rg.new {H : Hp} {r p : Addr} {o : HO} (g : Rg H r) (h : H p = none) : Rg (upd H p o) r := by
  obtain ⟨x, y, e, z⟩ := g
  exact ⟨x, y, (upd_ne (ne_of_none e h)).trans e, z⟩
theorem Rg.same {H H' : Hp} {r : Addr} (g : Rg H r) (s : Same H H') : Rg H' r := by
  obtain ⟨x, y, e, z⟩ := g
  exact ⟨x, y, s _ _ e, z⟩
/-- what is new stays, where all that is not new may change -/
theorem news_but {B H H' : Hp} {r : Addr} (s : But r H H') (there : ∃ o, B r = some o) : Same (news B H) (news B H') := fun b o e => by
  obtain ⟨h1, h2⟩ := news_of e
  obtain ⟨u, hu⟩ := there
  exact news_at h1 (s b o (fun z => by rw [z, hu] at h1; cases h1) h2)
theorem news_up {B H H' : Hp} (d : ∀ b o, B b = some o → ∃ u, H b = some u) : Same (news H H') (news B H') := fun b o e => by
  obtain ⟨h1, h2⟩ := news_of e
  refine news_at ?_ h2
  cases q : B b with
  | none => rfl
  | some u =>
    obtain ⟨x, hx⟩ := d b u q
    rw [h1] at hx
    cases hx
theorem But.dom {r : Addr} {H H' : Hp} (s : But r H H') (g : ∃ o, H' r = some o) : ∀ b o, H b = some o → ∃ u, H' b = some u := fun b o e => by
  by_cases hb : b = r
  · rw [hb]
    exact g
  · exact ⟨o, s b o hb e⟩
/-- data with a short text, not deep -/
structure Nice (d : PyData) : Prop where
  sh : d.showable = true
  ln : d.shown.length ≤ 100
  dp : d.depth ≤ 6
end PSG

set_option Elab.async false
set_option linter.all false
set_option maxRecDepth 100000
set_option maxHeartbeats 4000000
/-! zip of two texts -/
namespace PSZ
open PySem
open PySem.Sem (wp)
section
variable {prog : Program} {w : World} {A : Around} {E : Value → Shared → Prop} {s : Shared}
def TextTy (ty : String) : Prop := ty = "str_ascii_iterator" ∨ ty = "str_iterator"
theorem text_item {ty : String} {p : Addr} {x : Str} {t : Tok} {i c : Nat} {Q : Value → Shared → Prop} (k : TextTy ty) (it : s.heap.IsStrIter p ty x t i) (e : x.cps[i]? = some c)
    (q : ∀ g, g.IsStrIter p ty x t (i + 1) → Heap.SameBut p s.heap g → Q (.str ⟨#[c]⟩ s.toks) { s with heap := g, toks := s.toks + 1 }) : wpAny (model prog w) A (Builtin.SmallTypes.nextOf (.ref p)) Q E s := by
  rcases k with rfl | rfl
  · exact wpAny_nextOf_ascii_item it e q
  · exact wpAny_nextOf_wide_item it e q
theorem text_end {ty : String} {p : Addr} {x : Str} {t : Tok} {i : Nat} {Q : Value → Shared → Prop} (k : TextTy ty) (hd : A.handled = none) (it : s.heap.IsStrIter p ty x t i) (e : x.cps[i]? = none)
    (q : ∀ g b, Heap.ExtBut p s.heap g → (∃ o, g.get? b = some o ∧ o.cls = .type "StopIteration") → E (.ref b) { s with heap := g }) : wpAny (model prog w) A (Builtin.SmallTypes.nextOf (.ref p)) Q E s := by
  rcases k with rfl | rfl
  · exact wpAny_nextOf_ascii_end hd it e q
  · exact wpAny_nextOf_wide_end hd it e q
theorem at_text {h h' : Heap} {p : Addr} {ty : String} {x : Str} {t : Tok} {i : Nat} (y : h.IsStrIter p ty x t i) (k : ∀ o, h.get? p = some o → h'.get? p = some o) : h'.IsStrIter p ty x t i :=
  let ⟨o, e, r⟩ := y
  ⟨o, k o e, r⟩
/-- a turn of zip over two texts that both have a further sign -/
theorem zipS_item {z TI TO i1 i2 l1 l2 : Addr} {ty1 ty2 : String} {x1 x2 : Str} {t1 t2 : Tok} {k1 k2 c1 c2 : Nat} {a b : Value} {Q : Value → Shared → Prop} (D : ZipApart z TI TO i1 i2 l1 l2) (y1 : TextTy ty1) (y2 : TextTy ty2)
    (hz : IsZip s.heap z TI TO .none) (hTI : IsPair s.heap TI (.ref i1) (.ref i2)) (hTO : IsPair s.heap TO a b) (h1 : s.heap.IsStrIter i1 ty1 x1 t1 k1) (h2 : s.heap.IsStrIter i2 ty2 x2 t2 k2)
    (e1 : x1.cps[k1]? = some c1) (e2 : x2.cps[k2]? = some c2)
    (q : ∀ g n u1 u2, IsZip g z TI TO (rawInt s.heap.objs.size) → (∃ a b, IsPair g TO a b) → g.IsStrIter i1 ty1 x1 t1 (k1 + 1) → g.IsStrIter i2 ty2 x2 t2 (k2 + 1) → IsPair g s.heap.objs.size (.str ⟨#[c1]⟩ u1) (.str ⟨#[c2]⟩ u2) →
      (∀ c o, c ≠ z → c ≠ TO → c ≠ i1 → c ≠ i2 → s.heap.get? c = some o → g.get? c = some o) → Q (.ref s.heap.objs.size) { s with heap := g, toks := n }) :
    wpAny (model prog w) A (Builtin.«zip.__next__» ⟨[.ref z], []⟩) (fun r s' => ∃ v, r = .done (.ret v) ∧ Q v s') E s := by
  show wpAny _ _ (field (.ref z) 2 >>= _) _ _ _
  refine wpAny_bind (wpAny_field hz rfl (x := .bool false) rfl ?_)
  show wpAny _ _ (field (.ref z) 3 >>= _) _ _ _
  refine wpAny_bind (wpAny_field hz rfl (x := .ref TI) rfl ?_)
  refine wpAny_bind (wpAny_seqItems hTI rfl ?_)
  show wpAny _ _ (Builtin.SmallTypes.ownedTupleIsFree (.ref z) >>= _) _ _ _
  refine wpAny_bind ?_
  unfold Builtin.SmallTypes.ownedTupleIsFree
  refine wpAny_bind (wpAny_field hz rfl (x := .none) rfl (wpAny_pure ?_))
  simp only [if_true]
  refine wpAny_bind (wpAny_rule ?_)
  refine wpAny_bind (wpAny_field hz rfl (x := .ref TO) rfl ?_)
  refine wpAny_bind (wpAny_setField_rec hz (by simp) fun g1 z1 s1 => ?_)
  replace z1 : IsZip g1 z TI TO .ellipsis := z1
  refine wpAny_bind ?_
  simp only [List.zipIdx_cons, List.zipIdx_nil, List.forIn_cons, List.forIn_nil]
  refine wpAny_bind (wpAny_bind (wpAny_onRaise ?_))
  show wpAny _ _ (Builtin.SmallTypes.nextOf (.ref i1) >>= _) _ _ _
  refine wpAny_bind (text_item y1 (h1.extBut s1.extBut D.i1z) e1 fun g2 it1 s2 => wpAny_pure ?_)
  have o2 : IsPair g2 TO a b := s2.extBut _ _ D.TOi1 (s1.extBut _ _ D.TOz hTO)
  refine wpAny_bind (wpAny_seqItems o2 rfl ?_)
  refine wpAny_bind (wpAny_updateSeq_pair o2 fun g3 o3 s3 => ?_)
  replace o3 : IsPair g3 TO (.str ⟨#[c1]⟩ s.toks) b := o3
  refine wpAny_bind (wpAny_letGo (wpAny_pure ?_))
  refine wpAny_bind (wpAny_bind (wpAny_onRaise ?_))
  show wpAny _ _ (Builtin.SmallTypes.nextOf (.ref i2) >>= _) _ _ _
  refine wpAny_bind (text_item y2 (((h2.extBut s1.extBut D.i2z).extBut s2.extBut D.i12.symm).extBut s3.extBut D.TOi2.symm) e2 fun g4 it2 s4 => wpAny_pure ?_)
  have o4 : IsPair g4 TO (.str ⟨#[c1]⟩ s.toks) b := s4.extBut _ _ D.TOi2 o3
  refine wpAny_bind (wpAny_seqItems o4 rfl ?_)
  refine wpAny_bind (wpAny_updateSeq_pair o4 fun g5 o5 s5 => ?_)
  replace o5 : IsPair g5 TO (.str ⟨#[c1]⟩ s.toks) (.str ⟨#[c2]⟩ (s.toks + 1)) := o5
  refine wpAny_bind (wpAny_letGo (wpAny_pure (wpAny_pure ?_)))
  refine wpAny_bind (wpAny_seqItems o5 rfl ?_)
  refine wpAny_bind (wpAny_newTuple ?_)
  have size : g5.objs.size = s.heap.objs.size := by rw [s5.1, s4.1, s3.1, s2.1, s1.1]
  have z5 : IsZip g5 z TI TO .ellipsis := s5.extBut _ _ D.TOz.symm (s4.extBut _ _ D.i2z.symm (s3.extBut _ _ D.TOz.symm (s2.extBut _ _ D.i1z.symm z1)))
  have keep : ∀ c o, c ≠ z → c ≠ TO → c ≠ i1 → c ≠ i2 → s.heap.get? c = some o → g5.get? c = some o := fun c o n1 n2 n3 n4 e =>
    s5.extBut _ _ n2 (s4.extBut _ _ n4 (s3.extBut _ _ n2 (s2.extBut _ _ n3 (s1.extBut _ _ n1 e))))
  have j1 : g5.IsStrIter i1 ty1 x1 t1 (k1 + 1) := ((it1.extBut s3.extBut D.TOi1.symm).extBut s4.extBut D.i12).extBut s5.extBut D.TOi1.symm
  have j2 : g5.IsStrIter i2 ty2 x2 t2 (k2 + 1) := it2.extBut s5.extBut D.TOi2.symm
  have lz : z < g5.objs.size := Heap.lt_size z5
  show wpAny _ _ (Builtin.SmallTypes.ownedTupleHandOut (.ref z) (.ref g5.objs.size) >>= _) _ _ _
  refine wpAny_bind ?_
  unfold Builtin.SmallTypes.ownedTupleHandOut
  have z6 : IsZip (g5.push { cls := .type "tuple", data := .seq #[.str ⟨#[c1]⟩ s.toks, .str ⟨#[c2]⟩ (s.toks + 1)] }) z TI TO .ellipsis := Heap.get?_push_of_some _ z5
  refine wpAny_bind (wpAny_setField_rec z6 (by simp) fun g7 z7 s7 => ?_)
  replace z7 : IsZip g7 z TI TO (rawInt g5.objs.size) := z7
  refine wpAny_setField_rec z7 (by simp) fun g8 z8 s8 => ?_
  replace z8 : IsZip g8 z TI TO (rawInt g5.objs.size) := z8
  have up : ∀ c o, c ≠ z → g5.get? c = some o → g8.get? c = some o := fun c o n e => s8.extBut _ _ n (s7.extBut _ _ n (Heap.get?_push_of_some _ e))
  have p8 : IsPair g8 g5.objs.size (.str ⟨#[c1]⟩ s.toks) (.str ⟨#[c2]⟩ (s.toks + 1)) := s8.extBut _ _ (Nat.ne_of_gt lz) (s7.extBut _ _ (Nat.ne_of_gt lz) (Heap.get?_push_size _ rfl))
  rw [size] at z8 p8
  refine wpAny_pure ⟨_, rfl, ?_⟩
  show Q (.ref g5.objs.size) _
  rw [size]
  exact q g8 _ _ _ z8 ⟨_, _, up _ _ D.TOz o5⟩ (at_text j1 fun o e => up _ o D.i1z e) (at_text j2 fun o e => up _ o D.i2z e) p8 fun c o n1 n2 n3 n4 e => up c o n1 (keep c o n1 n2 n3 n4 e)
/-- the turn at which one of the texts is at its end -/
theorem zipS_end {z TI TO i1 i2 l1 l2 : Addr} {ty1 ty2 : String} {x1 x2 : Str} {t1 t2 : Tok} {k1 k2 : Nat} {a b : Value} {Q : Fin → Shared → Prop} (hd : A.handled = none) (D : ZipApart z TI TO i1 i2 l1 l2) (y1 : TextTy ty1) (y2 : TextTy ty2)
    (hz : IsZip s.heap z TI TO .none) (hTI : IsPair s.heap TI (.ref i1) (.ref i2)) (hTO : IsPair s.heap TO a b) (h1 : s.heap.IsStrIter i1 ty1 x1 t1 k1) (h2 : s.heap.IsStrIter i2 ty2 x2 t2 k2)
    (fin : x1.cps[k1]? = none ∨ x2.cps[k2]? = none)
    (q : ∀ g n e, (∀ c o, c ≠ z → c ≠ TO → c ≠ i1 → c ≠ i2 → s.heap.get? c = some o → g.get? c = some o) → (∃ o, g.get? e = some o ∧ o.cls = .type "StopIteration") → E (.ref e) { s with heap := g, toks := n }) :
    wpAny (model prog w) A (Builtin.«zip.__next__» ⟨[.ref z], []⟩) Q E s := by
  show wpAny _ _ (field (.ref z) 2 >>= _) _ _ _
  refine wpAny_bind (wpAny_field hz rfl (x := .bool false) rfl ?_)
  show wpAny _ _ (field (.ref z) 3 >>= _) _ _ _
  refine wpAny_bind (wpAny_field hz rfl (x := .ref TI) rfl ?_)
  refine wpAny_bind (wpAny_seqItems hTI rfl ?_)
  show wpAny _ _ (Builtin.SmallTypes.ownedTupleIsFree (.ref z) >>= _) _ _ _
  refine wpAny_bind ?_
  unfold Builtin.SmallTypes.ownedTupleIsFree
  refine wpAny_bind (wpAny_field hz rfl (x := .none) rfl (wpAny_pure ?_))
  simp only [if_true]
  refine wpAny_bind (wpAny_rule ?_)
  refine wpAny_bind (wpAny_field hz rfl (x := .ref TO) rfl ?_)
  refine wpAny_bind (wpAny_setField_rec hz (by simp) fun g1 z1 s1 => ?_)
  replace z1 : IsZip g1 z TI TO .ellipsis := z1
  refine wpAny_bind ?_
  simp only [List.zipIdx_cons, List.zipIdx_nil, List.forIn_cons, List.forIn_nil]
  refine wpAny_bind (wpAny_bind (wpAny_onRaise ?_))
  show wpAny _ _ (Builtin.SmallTypes.nextOf (.ref i1) >>= _) _ _ _
  cases e1 : x1.cps[k1]? with
  | none =>
    refine wpAny_bind (text_end y1 hd (h1.extBut s1.extBut D.i1z) e1 fun g2 e s2 st => ?_)
    obtain ⟨oe, ge, ce⟩ := st
    have z2 : IsZip g2 z TI TO .ellipsis := s2 _ _ D.i1z.symm z1
    have nz : e ≠ z := fun x => by
      rw [x, z2] at ge
      cases ge
      simp at ce
    exact wpAny_setField_rec z2 (by simp) fun g3 _ s3 => q g3 _ e (fun c o n1 _ n3 _ x => s3.extBut _ _ n1 (s2 _ _ n3 (s1.extBut _ _ n1 x))) ⟨oe, s3.extBut _ _ nz ge, ce⟩
  | some c1 =>
    have e2 : x2.cps[k2]? = none := by
      rcases fin with h | h
      · rw [e1] at h
        cases h
      · exact h
    refine wpAny_bind (text_item y1 (h1.extBut s1.extBut D.i1z) e1 fun g2 it1 s2 => wpAny_pure ?_)
    have o2 : IsPair g2 TO a b := s2.extBut _ _ D.TOi1 (s1.extBut _ _ D.TOz hTO)
    refine wpAny_bind (wpAny_seqItems o2 rfl ?_)
    refine wpAny_bind (wpAny_updateSeq_pair o2 fun g3 o3 s3 => ?_)
    refine wpAny_bind (wpAny_letGo (wpAny_pure ?_))
    refine wpAny_bind (wpAny_bind (wpAny_onRaise ?_))
    show wpAny _ _ (Builtin.SmallTypes.nextOf (.ref i2) >>= _) _ _ _
    refine wpAny_bind (text_end y2 hd (((h2.extBut s1.extBut D.i2z).extBut s2.extBut D.i12.symm).extBut s3.extBut D.TOi2.symm) e2 fun g4 e s4 st => ?_)
    obtain ⟨oe, ge, ce⟩ := st
    have z4 : IsZip g4 z TI TO .ellipsis := s4 _ _ D.i2z.symm (s3.extBut _ _ D.TOz.symm (s2.extBut _ _ D.i1z.symm z1))
    have nz : e ≠ z := fun x => by
      rw [x, z4] at ge
      cases ge
      simp at ce
    exact wpAny_setField_rec z4 (by simp) fun g5 _ s5 => q g5 _ e (fun c o n1 n2 n3 n4 x => s5.extBut _ _ n1 (s4 _ _ n4 (s3.extBut _ _ n2 (s2.extBut _ _ n3 (s1.extBut _ _ n1 x))))) ⟨oe, s5.extBut _ _ nz ge, ce⟩
theorem next_zipS {z TI TO i1 i2 l1 l2 : Addr} {ty1 ty2 : String} {x1 x2 : Str} {t1 t2 : Tok} {k1 k2 c1 c2 : Nat} {a b : Value} {Q : Option Value → Shared → Prop} (D : ZipApart z TI TO i1 i2 l1 l2) (y1 : TextTy ty1) (y2 : TextTy ty2)
    (hz : IsZip s.heap z TI TO .none) (hTI : IsPair s.heap TI (.ref i1) (.ref i2)) (hTO : IsPair s.heap TO a b) (h1 : s.heap.IsStrIter i1 ty1 x1 t1 k1) (h2 : s.heap.IsStrIter i2 ty2 x2 t2 k2)
    (e1 : x1.cps[k1]? = some c1) (e2 : x2.cps[k2]? = some c2)
    (q : ∀ g n u1 u2, IsZip g z TI TO (rawInt s.heap.objs.size) → (∃ a b, IsPair g TO a b) → g.IsStrIter i1 ty1 x1 t1 (k1 + 1) → g.IsStrIter i2 ty2 x2 t2 (k2 + 1) → IsPair g s.heap.objs.size (.str ⟨#[c1]⟩ u1) (.str ⟨#[c2]⟩ u2) →
      (∀ c o, c ≠ z → c ≠ TO → c ≠ i1 → c ≠ i2 → s.heap.get? c = some o → g.get? c = some o) → Q (some (.ref s.heap.objs.size)) { s with heap := g, toks := n }) :
    wpAny (model prog w) A (pyNext (.ref z)) Q E s := by
  have ty : s.TypeIs (.ref z) "zip" := ⟨_, hz, rfl⟩
  unfold pyNext
  refine wpAny_bind (wpAny_attempt (wpAny_callSpecial?_slot (name := Str.ofString "__next__") ty F.slot_zip_next (wpAny_call_entry F.slot_zip_next ty F.entry_zip_next ?_ (F.args_zip_next_1 _))))
  exact zipS_item D y1 y2 hz hTI hTO h1 h2 e1 e2 fun g n u1 u2 p1 p2 p3 p4 p5 p6 => wpAny_pure (q g n u1 u2 p1 p2 p3 p4 p5 p6)
theorem next_zipS_end {z TI TO i1 i2 l1 l2 : Addr} {ty1 ty2 : String} {x1 x2 : Str} {t1 t2 : Tok} {k1 k2 : Nat} {a b : Value} {Q : Option Value → Shared → Prop} (hd : A.handled = none) (D : ZipApart z TI TO i1 i2 l1 l2) (y1 : TextTy ty1) (y2 : TextTy ty2)
    (hz : IsZip s.heap z TI TO .none) (hTI : IsPair s.heap TI (.ref i1) (.ref i2)) (hTO : IsPair s.heap TO a b) (h1 : s.heap.IsStrIter i1 ty1 x1 t1 k1) (h2 : s.heap.IsStrIter i2 ty2 x2 t2 k2)
    (fin : x1.cps[k1]? = none ∨ x2.cps[k2]? = none) (q : ∀ g n, (∀ c o, c ≠ z → c ≠ TO → c ≠ i1 → c ≠ i2 → s.heap.get? c = some o → g.get? c = some o) → Q none { s with heap := g, toks := n }) : wpAny (model prog w) A (pyNext (.ref z)) Q E s := by
  have ty : s.TypeIs (.ref z) "zip" := ⟨_, hz, rfl⟩
  unfold pyNext
  refine wpAny_bind (wpAny_attempt (wpAny_callSpecial?_slot (name := Str.ofString "__next__") ty F.slot_zip_next (wpAny_call_entry F.slot_zip_next ty F.entry_zip_next ?_ (F.args_zip_next_1 _))))
  refine zipS_end hd D y1 y2 hz hTI hTO h1 h2 fin fun g n e k st => ?_
  obtain ⟨o, ho, hc⟩ := st
  exact wpAny_bind (wpAny_isInstance (T := "StopIteration") (b := true) ⟨o, ho, hc⟩ isSubtype_stop (wpAny_pure (q g n k)))
end
end PSZ

set_option Elab.async false
set_option linter.all false
set_option maxRecDepth 100000
set_option maxHeartbeats 4000000
namespace PSZ
open PySem
open PySem.Sem (wp)
theorem textTy (x : Str) : TextTy (strIterType x) := by
  unfold strIterType
  split
  · exact .inl rfl
  · exact .inr rfl
def walker (x : Str) (t : Tok) : Obj := { cls := .type (strIterType x), data := .fields #[.str x t, .int 0 0] }
def two (a b : Value) : Obj := { cls := .type "tuple", data := .seq #[a, b] }
def pairs (h : Heap) (x y : Str) (t u : Tok) : Heap := (((h.push (walker x t)).push (walker y u)).push (two (.ref h.objs.size) (.ref (h.push (walker x t)).objs.size))).push (two .none .none)
def zipped (h : Heap) (x y : Str) (t u : Tok) : Heap :=
  (pairs h x y t u).push { cls := .type "zip", data := .fields #[.none, .bool false, .bool false, .ref ((h.push (walker x t)).push (walker y u)).objs.size, .ref (((h.push (walker x t)).push (walker y u)).push (two (.ref h.objs.size) (.ref (h.push (walker x t)).objs.size))).objs.size] }
theorem new_zipS (x y : Str) (t u : Tok) : Meets (Builtin.«zip.__new__» ⟨[.type "zip", .str x t, .str y u], []⟩) (fun _ R s => R (.ok (.ret (.ref (pairs s.heap x y t u).objs.size))) { s with heap := zipped s.heap x y t u }) :=
  .of_wp fun prog w A R s h => by
    obtain ⟨hp, g, d, tk, os⟩ := s
    have sub := sub_zip
    wp_walk using wpAny_pyIter_strU
    exact ⟨_, rfl, h⟩
section
variable {prog : Program} {w : World} {A : Around} {E : Value → Shared → Prop} {s : Shared}
theorem call_zipS {x y : Str} {t u : Tok} {Q : Value → Shared → Prop}
    (q : ∀ g, IsZip g (s.heap.objs.size + 4) (s.heap.objs.size + 2) (s.heap.objs.size + 3) .none → IsPair g (s.heap.objs.size + 2) (.ref s.heap.objs.size) (.ref (s.heap.objs.size + 1)) → IsPair g (s.heap.objs.size + 3) .none .none →
      g.IsStrIter s.heap.objs.size (strIterType x) x t 0 → g.IsStrIter (s.heap.objs.size + 1) (strIterType y) y u 0 → (∀ c o, s.heap.get? c = some o → g.get? c = some o) → Q (.ref (s.heap.objs.size + 4)) { s with heap := g }) :
    wpAny (model prog w) A (call (.type "zip") [.str x t, .str y u]) Q E s := by
  refine callType_new F.called_zip (by decide) (F.typeCall_zip_2 _ _) (F.newCall_zip_2 _ _) (fun obj => F.args_object_init_3 obj _ _) F.entry_zip_new (new_zipS x y t u) ?_
  have n1 : (s.heap.push (walker x t)).objs.size = s.heap.objs.size + 1 := Heap.size_push ..
  have n2 : ((s.heap.push (walker x t)).push (walker y u)).objs.size = s.heap.objs.size + 2 := by rw [Heap.size_push, n1]
  have n3 : (((s.heap.push (walker x t)).push (walker y u)).push (two (.ref s.heap.objs.size) (.ref (s.heap.push (walker x t)).objs.size))).objs.size = s.heap.objs.size + 3 := by rw [Heap.size_push, n2]
  have n4 : (pairs s.heap x y t u).objs.size = s.heap.objs.size + 4 := by
    unfold pairs
    rw [Heap.size_push, n3]
  have old : ∀ {c : Addr} {o : Obj}, (pairs s.heap x y t u).get? c = some o → (zipped s.heap x y t u).get? c = some o := fun e => Heap.get?_push_of_some _ e
  have a5 : (zipped s.heap x y t u).get? (pairs s.heap x y t u).objs.size = some _ := Heap.get?_push_size _ rfl
  have a4 : (zipped s.heap x y t u).get? _ = some _ := old (Heap.get?_push_size _ rfl)
  have a3 : (zipped s.heap x y t u).get? _ = some _ := old (Heap.get?_push_of_some _ (Heap.get?_push_size _ rfl))
  have a2 : (zipped s.heap x y t u).get? _ = some _ := old (Heap.get?_push_of_some _ (Heap.get?_push_of_some _ (Heap.get?_push_size _ rfl)))
  have a1 : (zipped s.heap x y t u).get? s.heap.objs.size = some _ := old (Heap.get?_push_of_some _ (Heap.get?_push_of_some _ (Heap.get?_push_of_some _ (Heap.get?_push_size _ rfl))))
  show _ ∧ _
  rw [n2, n3, n4] at a5
  rw [n3] at a4
  rw [n2, n1] at a3
  rw [n1] at a2
  rw [n4]
  exact ⟨⟨_, a5, rfl⟩, q _ a5 a3 a4 ⟨_, a1, rfl, rfl⟩ ⟨_, a2, rfl, rfl⟩ fun c o e => old (Heap.get?_push_of_some _ (Heap.get?_push_of_some _ (Heap.get?_push_of_some _ (Heap.get?_push_of_some _ e))))⟩
end
end PSZ
namespace PSG
open PySem PySem.Spec L2
open PyProof.Rows (IntsAre AllBare)
/-- the pairs of two texts -/
def Itzs (x y : Str) : It :=
  ⟨fun i _ => i < x.cps.size ∧ i < y.cps.size, fun i H v H' => ∃ T c d, v = .ref T ∧ H T = none ∧ H' = upd H T (.tup [.str ⟨#[c]⟩, .str ⟨#[d]⟩]) ∧ x.cps[i]? = some c ∧ y.cps[i]? = some d, fun i _ => x.cps.size ≤ i ∨ y.cps.size ≤ i⟩
theorem turn_zipS {P : Program} {w : World} {K : PySem.W.Frag} {tg : List Expr} {n : Nat} {tp : Pos} {x y : Str} {t u : Tok} {l1 l2 z TI TO i1 i2 : Addr} (D : ZipApart z TI TO i1 i2 l1 l2) :
    Turn P w K (.Tuple tg n tp) (Itzs x y) [z, TI, TO, i1, i2] z (fun i h => IsZip h z TI TO .none ∧ IsPair h TI (.ref i1) (.ref i2) ∧ (∃ a b, IsPair h TO a b) ∧ h.IsStrIter i1 (strIterType x) x t i ∧ h.IsStrIter i2 (strIterType y) y u i) where
  mem := by simp
  obj := fun i h st c hc => by
    obtain ⟨hz, hTI, ⟨a, b, hTO⟩, ⟨o1, e1, _, d1⟩, ⟨o2, e2, _, d2⟩⟩ := st
    have which : c = z ∨ c = TI ∨ c = TO ∨ c = i1 ∨ c = i2 := by simpa using hc
    rcases which with rfl | rfl | rfl | rfl | rfl
    · exact ⟨_, hz, fun v q => nomatch q⟩
    · exact ⟨_, hTI, fun v q => nomatch q⟩
    · exact ⟨_, hTO, fun v q => nomatch q⟩
    · exact ⟨o1, e1, fun v q => by rw [d1] at q; cases q⟩
    · exact ⟨o2, e2, fun v q => by rw [d2] at q; cases q⟩
  keep := fun i h h' st k => by
    obtain ⟨hz, hTI, ⟨a, b, hTO⟩, h1, h2⟩ := st
    exact ⟨k z (by simp) _ hz, k TI (by simp) _ hTI, ⟨a, b, k TO (by simp) _ hTO⟩, PSZ.at_text h1 fun o q => k i1 (by simp) o q, PSZ.at_text h2 fun o q => k i2 (by simp) o q⟩
  item := by
    intro X e1 e2 e3 calm i pins s σ H E I fp st go
    subst e1 e2 e3
    obtain ⟨hz, hTI, ⟨a, b, hTO⟩, h1, h2⟩ := st
    obtain ⟨lx, ly⟩ := go
    have ex : x.cps[i]? = some x.cps[i] := Array.getElem?_eq_getElem lx
    have ey : y.cps[i]? = some y.cps[i] := Array.getElem?_eq_getElem ly
    have lz : z < s.heap.objs.size := Heap.lt_size hz
    refine PSZ.next_zipS D (PSZ.textTy x) (PSZ.textTy y) hz hTI hTO h1 h2 ex ey fun g m u1 u2 z' o' j1 j2 pr k => ?_
    refine ⟨_, rfl, wpAny_letOwnedTupleGo_zip (s := { s with heap := g, toks := m }) z' fun g2 z2 sb => ?_⟩
    have pr2 : g2.get? s.heap.objs.size = some { cls := .type "tuple", data := .seq #[.str ⟨#[x.cps[i]]⟩ u1, .str ⟨#[y.cps[i]]⟩ u2] } := (sb.2 _ (Nat.ne_of_gt lz)).trans pr
    have new : ObjOk X.prog X.w (upd H s.heap.objs.size (.tup [.str ⟨#[x.cps[i]]⟩, .str ⟨#[y.cps[i]]⟩])) g2 s.heap.objs.size (.tup [.str ⟨#[x.cps[i]]⟩, .str ⟨#[y.cps[i]]⟩]) :=
      ⟨by show 2 ≤ sizeLine; decide, _, .cons ⟨u1, rfl⟩ (.cons ⟨u2, rfl⟩ .nil), ⟨_, pr2, rfl, _, rfl⟩⟩
    have out : ∀ c, c ∉ [z, TI, TO, i1, i2] → c ≠ z ∧ c ≠ TO ∧ c ≠ i1 ∧ c ≠ i2 := fun c n => by
      simp only [List.mem_cons, List.not_mem_nil, or_false, not_or] at n
      exact ⟨n.1, n.2.2.1, n.2.2.2.1, n.2.2.2.2⟩
    have J := I.turnedNew (t' := m) (ch := [z, TI, TO, i1, i2]) (fun c o n q => (sb.2 c (out c n).1).trans (k c o (out c n).1 (out c n).2.1 (out c n).2.2.1 (out c n).2.2.2 q)) fp (Nat.le_refl _) new
    refine ⟨.ref s.heap.objs.size, _, J, rfl, ⟨_, _, _, rfl, I.hok.fresh (Nat.le_refl _), rfl, ex, ey⟩, ⟨z2, (sb.2 _ D.TIz).trans (k _ _ D.TIz D.TITO D.TIi1 D.TIi2 hTI), ?_, PSZ.at_text j1 fun o q => (sb.2 _ D.i1z).trans q, PSZ.at_text j2 fun o q => (sb.2 _ D.i2z).trans q⟩, fun c m => ?_⟩
    · obtain ⟨a', b', q⟩ := o'
      exact ⟨a', b', (sb.2 _ D.TOz).trans q⟩
    · have lt : c < s.heap.objs.size := by
        have which : c = z ∨ c = TI ∨ c = TO ∨ c = i1 ∨ c = i2 := by simpa using m
        rcases which with rfl | rfl | rfl | rfl | rfl
        · exact lz
        · exact Heap.lt_size hTI
        · exact Heap.lt_size hTO
        · obtain ⟨_, q, _⟩ := h1
          exact Heap.lt_size q
        · obtain ⟨_, q, _⟩ := h2
          exact Heap.lt_size q
      rw [upd_ne (Nat.ne_of_lt lt)]
      exact (fp c m).1
  done := by
    intro X e1 e2 e3 calm i pins s σ H E I fp st stop
    subst e1 e2 e3
    obtain ⟨hz, hTI, ⟨a, b, hTO⟩, h1, h2⟩ := st
    have fin : x.cps[i]? = none ∨ y.cps[i]? = none := stop.imp Array.getElem?_eq_none Array.getElem?_eq_none
    have out : ∀ c, c ∉ [z, TI, TO, i1, i2] → c ≠ z ∧ c ≠ TO ∧ c ≠ i1 ∧ c ≠ i2 := fun c n => by
      simp only [List.mem_cons, List.not_mem_nil, or_false, not_or] at n
      exact ⟨n.1, n.2.2.1, n.2.2.2.1, n.2.2.2.2⟩
    exact PSZ.next_zipS_end (I.ok.hd calm) D (PSZ.textTy x) (PSZ.textTy y) hz hTI hTO h1 h2 fin fun g m k => ⟨rfl, I.turnedL (t' := m) (ch := [z, TI, TO, i1, i2]) (fun c o n q => k c o (out c n).1 (out c n).2.1 (out c n).2.2.1 (out c n).2.2.2 q) fp⟩
  self := fun A i s Q E st h => wpAny_pyIter_zip st.1 h
def iZipS (ta : TA) : TI := fun σ H R => ta σ H fun vs H1 => ∃ x y, vs = [.str x, .str y] ∧ R (Itzs x y) H1
theorem pi_zipS {X : Cx} {e e2 : Expr} {ta : TA} {p pos tp : Pos} {tg : List Expr} {n : Nat} (hg : Gl X "zip") (hm : X.mg "zip" = none) (ha : PA X [e, e2] ta)
    (se : starEach [e, e2] X.env = (false, eval e X.env) :: starEach [e2] X.env := by rfl) (sn : (backTo pos (starEach [e2] X.env)).any (·.1) = false := by rfl) :
    PI X (.Tuple tg n tp) (.Call (.Name "zip" p) [e, e2] [] pos) (iZipS ta) := by
  refine ⟨fun pins s σ H R I h => ?_⟩
  refine PyProof.Rows.Call_ (ld_blt I hg hm PyProof.Rows.boot_zip (PyProof.Rows.callWith_type1 (thn (ha.run pos pins s σ H _ I h) fun us s1 ⟨vs, H1, I1, r1, x, y, ev, q⟩ => ?_) se sn))
  subst ev
  obtain ⟨u1, u2, rfl, rx, ry⟩ := vals2 r1
  obtain ⟨t, rfl⟩ := rx
  obtain ⟨u, rfl⟩ := ry
  have pos0 : 0 < s1.heap.objs.size := Nat.lt_of_le_of_lt (Nat.zero_le _) I1.big
  refine PSZ.call_zipS fun g hz hTI hTO h1 h2 k => wpAny_pyIter_zip hz ?_
  have I2 : Inv X pins σ H1 { s1 with heap := g } := I1.kept (t' := s1.toks) k
  refine ⟨s1.heap.objs.size + 4, [s1.heap.objs.size + 4, s1.heap.objs.size + 2, s1.heap.objs.size + 3, s1.heap.objs.size, s1.heap.objs.size + 1], _, _, H1, rfl, I2, turn_zipS (PySem.W.ktu_apart s1.heap.objs.size 0 0 pos0 pos0), ⟨hz, hTI, ⟨_, _, hTO⟩, h1, h2⟩, fun c m => ?_, q⟩
  have le : s1.heap.objs.size ≤ c := by
    simp only [List.mem_cons, List.not_mem_nil, or_false] at m
    rcases m with z | z | z | z | z
    · exact z ▸ Nat.le_add_right _ _
    · exact z ▸ Nat.le_add_right _ _
    · exact z ▸ Nat.le_add_right _ _
    · exact z ▸ Nat.le_refl _
    · exact z ▸ Nat.le_add_right _ _
  exact I1.fpOk le (I1.hok.fresh le)
/-- a loop over the pairs of two texts -/
theorem for_zipS {x y : Str} {g : TG} {tb : TS} {D : Ends} {σ : L2.St} {H : Hp} (Pv : Nat → L2.St → Hp → Prop) (h0 : Pv 0 σ H)
    (hs : ∀ (i c d : Nat) (T : Addr) (σ : L2.St) (H : Hp), x.cps[i]? = some c → y.cps[i]? = some d → Pv i σ H → H T = none → g (.ref T) σ (upd H T (.tup [.str ⟨#[c]⟩, .str ⟨#[d]⟩])) fun σ2 H2 => tb { D with nx := Pv (i + 1), ct := Pv (i + 1), bk := D.nx } σ2 H2)
    (hd : ∀ i σ H, x.cps.size ≤ i ∨ y.cps.size ≤ i → i ≤ x.cps.size → i ≤ y.cps.size → Pv i σ H → D.nx σ H) :
    ∃ W : Nat → Nat → L2.St → Hp → Prop, (∃ m, W 0 m σ H) ∧ ∀ i m σ H, W i m σ H →
      ((Itzs x y).stop i H ∧ D.nx σ H) ∨ ((Itzs x y).go i H ∧ ∃ N : L2.St → Hp → Prop, (∀ σ' H', N σ' H' → ∃ m', m' < m ∧ W (i + 1) m' σ' H') ∧ ∀ v H', (Itzs x y).yld i H v H' → g v σ H' fun σ2 H2 => tb { D with nx := N, ct := N, bk := D.nx } σ2 H2) := by
  refine ⟨fun i m σ H => m = x.cps.size - i ∧ i ≤ x.cps.size ∧ i ≤ y.cps.size ∧ Pv i σ H, ⟨x.cps.size, rfl, Nat.zero_le _, Nat.zero_le _, h0⟩, ?_⟩
  rintro i m σ H ⟨rfl, l1, l2, p⟩
  by_cases go : i < x.cps.size ∧ i < y.cps.size
  · refine .inr ⟨go, Pv (i + 1), fun σ' H' p' => ⟨x.cps.size - (i + 1), by omega, rfl, go.1, go.2, p'⟩, fun v H' yl => ?_⟩
    obtain ⟨T, c, d, rfl, hT, rfl, e1, e2⟩ := yl
    exact hs i c d T σ H e1 e2 p hT
  · have fin : x.cps.size ≤ i ∨ y.cps.size ≤ i := by omega
    exact .inl ⟨fin, hd i σ H fin l1 l2 p⟩
end PSG

set_option Elab.async false
set_option linter.all false
set_option maxRecDepth 100000
set_option maxHeartbeats 4000000
namespace PSG
open PySem PySem.Spec L2
open PyProof.Rows (IntsAre AllBare)
/-! ### own exceptions of any base, raised -/
/-- what an exception that is held bears: its dict, if it has attributes -/
def ExS (H : Hp) (d : Option Addr) (fs : List (Str × V)) : Prop := (d = none ∧ fs = []) ∨ ∃ dx, d = some dx ∧ fs ≠ [] ∧ H dx = some (exd dx fs)
theorem ExS.same {H H' : Hp} {d : Option Addr} {fs : List (Str × V)} (x : ExS H d fs) (s : Same H H') : ExS H' d fs := by
  rcases x with x | ⟨dx, e, n, h⟩
  · exact .inl x
  · exact .inr ⟨dx, e, n, s _ _ h⟩
/-- the new exception is no longer tracked, its dict stands -/
theorem let_go {X : Cx} {pins : List (Addr × Obj)} {σ : L2.St} {H1 H2 : Hp} {hp hp2 h2 : Heap} {g1 g2 : Array GenState} {r1 r2 : Drawn} {t1 t2 : Nat} {os1 os2 : OsState} {a C : Addr} {d : Option Addr} (I : Inv X pins σ H1 ⟨hp, g1, r1, t1, os1⟩)
    (above : hp.objs.size ≤ a) (old : ∀ b o, hp.get? b = some o → hp2.get? b = some o) (un : Un (frs X.stack) [] (upd H1 a (exo a C none)) H2 hp2 h2) (hok : HOk X.prog X.w H2 h2) (eos : os2 = os1) (bare : AllBare g2) (ea : H2 a = some (exo a C d)) :
    ∃ (t0 : Addr) (G : Heap), Inv X pins σ (del H2 a) ⟨G, g2, r2, t2, os2⟩ ∧ (∀ b o, G.get? b = some o → h2.get? b = some o) ∧ G.get? a = none ∧
      h2.get? a = some ({ cls := .ref C, dict := d, data := .fields #[.ref t0, .none, .none, .none, .bool false, .none] } : Obj) := by
  obtain ⟨t0, at_⟩ := exo_at hok ea
  have n1 : H1 a = none := I.hok.fresh above
  obtain ⟨G, yes, no⟩ := restrict h2 fun b => decide (b ≠ a)
  have gk : ∀ b, b ≠ a → G.get? b = h2.get? b := fun b n => yes b (decide_eq_true n)
  have ga : G.get? a = none := no a (by simp)
  have off : ∀ {b : Addr} {o : Obj}, hp.get? b = some o → b ≠ a := fun {b o} z => Nat.ne_of_lt (Nat.lt_of_lt_of_le (Heap.lt_size z) above)
  have up : ∀ {b : Addr} {u : Option HO}, b ≠ a → H1 b = u → upd H1 a (exo a C none) b = u := fun {b u} n e => (upd_ne n).trans e
  have U : Un (frs X.stack) [] H1 (del H2 a) hp G := {
    keep := fun b o z n f x => (gk b (off z)).trans (un.keep b o (old b o z) (up (off z) n) f x)
    slot := fun b o z n f x => by
      rw [gk b (off z)]
      exact un.slot b o (old b o z) (up (off z) n) f x
    free := fun b o z n x => (del_ne (off z)).trans (un.free b o (old b o z) (up (off z) n) x)
    there := fun b o z x => by
      rw [gk b (off z)]
      exact un.there b o (old b o z) x
    tups := fun b xs z => (del_ne (ne_of_none z n1)).trans (un.tups b xs (up (ne_of_none z n1) z))
    frzs := fun b o v z => (del_ne (ne_of_none z n1)).trans (un.frzs b o v (up (ne_of_none z n1) z))
    tbls := fun b ps z => by
      rw [del_ne (ne_of_none z n1)]
      exact un.tbls b ps (up (ne_of_none z n1) z) }
  have hok2 : HOk X.prog X.w (del H2 a) G := fun b o z => by
    have nb : b ≠ a := fun e => by
      rw [e, del_same] at z
      cases z
    rw [del_ne nb] at z
    refine (hok b o z).stay (fun c v hc y => ?_) (fun c hc => (del_ne (at_ne ea hc exo_own)).trans hc) fun c xs hc => (del_ne (at_ne ea hc exo_tup)).trans hc
    have nc : c ≠ a := by
      rcases hc with hc | hc
      · rw [hc]
        exact nb
      · exact at_ne ea hc exo_own
    exact (gk c nc).trans y
  refine ⟨t0, G, I.call' (ch := []) eos U hok2 bare (fun b z => absurd z (by simp)), fun b o z => ?_, ga, at_⟩
  by_cases e : b = a
  · rw [e, ga] at z
    cases z
  · exact (gk b e).symm.trans z
/-- C(e, ..): the exception's class, its dict, and what the state is then -/
def tPmk (C : Addr) (fn : List Str) (t : TA) : L2.St → Hp → XK → Prop := fun σ H Q => t σ H fun vs H1 => vs.length = fn.length ∧ fn.length ≤ 1000 ∧ ∀ d H3, Same H1 H3 → ExS H3 d (fn.zip vs).reverse → Q (.ref C) d H3
section
variable {X : Cx} {x : Str} {C fI : Addr} {n : Nat} {fd : FuncData} {ps fn : List Str} {B newId initId : String} {bmB : List Value} {p pos : Pos}
theorem pmade {pins : List (Addr × Obj)} {σ : L2.St} {H1 : Hp} {hp : Heap} {g : Array GenState} {dr : Drawn} {tk : Nat} {os : OsState} {Q : XK} {us : List Value} {vs : List V} (T : Xk X.K C fI B newId initId bmB)
    (F : FnOk X.prog X.w X.K X.mg X.base CX0 n fI fd ps (spXI C fn)) (room : Room (n + 1) X.A) (I1 : Inv X pins σ H1 ⟨hp, g, dr, tk, os⟩) (lay : List Value)
    (bi : ∀ s : Shared, X.K.In s.heap → BindsTo s fd ⟨Value.ref (hp.objs.size + 1) :: us, []⟩ (ps.zip (.ref (hp.objs.size + 1) :: us))) (va : Vals vs us) (len : vs.length = fn.length)
    (ho : ∀ d H3, Same H1 H3 → ExS H3 d (fn.zip vs).reverse → Q (.ref C) d H3) :
    codeAny (model X.prog X.w) (X.A.under (.builtin "type.__call__" ⟨.ref C :: lay, []⟩)) (.call (.ref fI) ⟨Value.ref (hp.objs.size + 1) :: us, []⟩)
      (PySem.W.InitBack (hp.objs.size + 1) fun r s' => match r with | .ok (.ret v) => MkP X pins σ Q v s' | .ok _ => False | .error e => X.xe e s')
      ⟨(hp.push (PySem.W.kdv_tup lay)).push (PySem.HandSPX.excO C hp.objs.size), g, dr, tk, os⟩ := by
  have big : hp.objs.size ≤ hp.objs.size + 1 := Nat.le_succ _
  have free : H1 (hp.objs.size + 1) = none := I1.hok.fresh big
  have old : ∀ b o, hp.get? b = some o → ((hp.push (PySem.W.kdv_tup lay)).push (PySem.HandSPX.excO C hp.objs.size)).get? b = some o := fun b o e => Heap.get?_push_of_some _ (Heap.get?_push_of_some _ e)
  have new : ((hp.push (PySem.W.kdv_tup lay)).push (PySem.HandSPX.excO C hp.objs.size)).get? (hp.objs.size + 1) = some (PySem.HandSPX.excO C hp.objs.size) := by heap_get
  have I2 := I1.laid (t' := tk) (a := hp.objs.size + 1) (o := exo (hp.objs.size + 1) C none) (h' := (hp.push (PySem.W.kdv_tup lay)).push (PySem.HandSPX.excO C hp.objs.size)) old big (exo_ok new)
  refine codeAny_mono (F.run _ X.stack _ _ _ (Value.ref (hp.objs.size + 1) :: us) (V.ref (hp.objs.size + 1) :: vs) (fun v H2 => v = .non ∧ (∀ b o, b ≠ hp.objs.size + 1 → H1 b = some o → H2 b = some o) ∧ ExV H2 (hp.objs.size + 1) C (fn.zip vs).reverse) (fun _ _ _ => False)
    (room.make C lay []) (I2.env0.make C lay []) (bi _ I2.kIn) (.cons rfl va) ⟨_, vs, rfl, len, upd_same, fun H2 k ex => ⟨rfl, fun b o nb e => k b o nb ((upd_ne nb).trans e), ex⟩⟩) fun r s' z => ?_
  match r, z with
  | .ok (.ret u), z =>
    obtain ⟨v, H2, eos, bare, un, hok, rel, ev, k, ex⟩ := z
    subst ev
    obtain ⟨h2, g2, r2, t2, os2⟩ := s'
    have fin : ∀ d, H2 (hp.objs.size + 1) = some (exo (hp.objs.size + 1) C d) → ExS (del H2 (hp.objs.size + 1)) d (fn.zip vs).reverse → MkP X pins σ Q (.ref (hp.objs.size + 1)) ⟨h2, g2, r2, t2, os2⟩ := fun d ea xs => by
      obtain ⟨t0, G, J, sub, ga, at_⟩ := let_go (r2 := r2) (t2 := t2) I1 big old un hok eos bare ea
      refine ⟨hp.objs.size + 1, _, _, ⟨G, g2, r2, t2, os2⟩, _, .ref C, d, rfl, J, sub, ga, at_, ⟨rfl, rfl⟩, rfl, rfl, del_same, rfl, bare, raises_own T.exc T.ty, ho d _ (fun b o e => ?_) xs⟩
      have nb : b ≠ hp.objs.size + 1 := ne_of_none e free
      exact (del_ne nb).trans (k b o nb e)
    refine ⟨rel, ?_⟩
    rcases ex with ⟨e, ea⟩ | ⟨d, e, ea, ed⟩
    · exact fin none ea (.inl ⟨rfl, e⟩)
    · refine fin (some d) ea (.inr ⟨d, rfl, e, (del_ne fun z => ?_).trans ed⟩)
      obtain ⟨t0, at_⟩ := exo_at hok ea
      obtain ⟨mA, ⟨o, es, ep, e1, e2, _⟩, _⟩ := exd_at hok ed
      rw [z, at_] at e1
      have e3 := Option.some.inj e1
      subst e3
      cases e2
  | .ok .next, z => exact z.elim
  | .ok .brk, z => exact z.elim
  | .ok .cont, z => exact z.elim
  | .error er, z => exact z.elim
theorem pmk_xk {e : Expr} {es : List Expr} {t : TA} (T : Xk X.K C fI B newId initId bmB) (F : FnOk X.prog X.w X.K X.mg X.base CX0 n fI fd ps (spXI C fn)) (room : Room (n + 1) X.A) (bi : Binds X.K fd ps []) (hps : ps.length = fn.length + 1)
    (hg : Gl X x) (hm : X.mg x = some (.ref C)) (ha : PA X (e :: es) t) (nd : (x == ("__debug__" : Str)) = false := by decide)
    (se : starEach (e :: es) X.env = (false, eval e X.env) :: starEach es X.env := by rfl) (sn : (backTo pos (starEach es X.env)).any (·.1) = false := by rfl) :
    PMk X (.Call (.Name x p) (e :: es) [] pos) (tPmk C fn t) := by
  intro pins s σ H Q I h
  refine wpAny_Call_Name_kw (ld_glob I hg hm ?_ nd)
  refine PySem.W.callWith_K (h₀ := X.base) I.ok.mod.kin T.keep (thn (ha.run pos pins s σ H _ I h) fun us s1 ⟨vs, H1, I1, r1, hl, hz, q1⟩ => ⟨I1.kIn, ?_⟩) se sn
  show wpAny _ _ (call (.ref C) us) _ _ _
  obtain ⟨hp, g, dr, tk, os⟩ := s1
  obtain ⟨nm, N, qn, bs, bm, hdct, sb, sub, ab, col, dd, k0, k1, k2, k3, k5, hC, same⟩ := PySem.W.excInit_of I1.kIn T.made
  have lu : us.length = fn.length := r1.length.symm.trans hl
  refine wpAny_call (PySem.HandSPX.call_own T.fb same hC (PySem.W.looks_findIn I1.kIn T.init) (fun self => PySem.W.bind_fn I1.kIn self T.fn) (by rw [sizeLine_eq]; omega) ?_)
  refine codeAny_mono (pmade (Q := Q) T F room I1 us (us := us) (fun s2 k2 => ?_) r1 hl q1) fun r s' z => z
  have z := bi s2 (Value.ref (hp.objs.size + 1) :: us) k2 (by rw [List.append_nil, List.length_cons, lu, hps])
  rw [List.append_nil] at z
  exact z
theorem pmk_xk0 (T : Xk X.K C fI B newId initId bmB) (F : FnOk X.prog X.w X.K X.mg X.base CX0 n fI fd ps (spXI C [])) (room : Room (n + 1) X.A) (bi : Binds X.K fd ps []) (hps : ps.length = 1)
    (hg : Gl X x) (hm : X.mg x = some (.ref C)) (nd : (x == ("__debug__" : Str)) = false := by decide) : PMk X (.Call (.Name x p) [] [] pos) (tPmk C [] tNil) := by
  intro pins s σ H Q I h
  refine wpAny_Call_Name_kw (ld_glob I hg hm ?_ nd)
  refine PySem.W.callWith_K0 I.kIn T.keep ?_
  obtain ⟨hp, g, dr, tk, os⟩ := s
  obtain ⟨nm, N, qn, bs, bm, hdct, sb, sub, ab, col, dd, k0, k1, k2, k3, k5, hC, same⟩ := PySem.W.excInit_of I.kIn T.made
  refine wpAny_call (PySem.HandSPX.call_own T.fb same hC (PySem.W.looks_findIn I.kIn T.init) (fun self => PySem.W.bind_fn I.kIn self T.fn) (Nat.zero_le _) ?_)
  refine codeAny_mono (pmade (Q := Q) (vs := []) T F room I [] (us := []) (fun s2 k2 => ?_) .nil rfl h.2.2) fun r s' z => z
  exact bi s2 [Value.ref (hp.objs.size + 1)] k2 (by rw [List.append_nil, hps]; rfl)
end
/-! ### in an except suite -/
section
variable {X : Cx} {a : Addr} {oe : Obj} {cls : Value} {d : Option Addr} {pn : List (Addr × Obj)}
theorem held {D : Addr} {fs : List (Str × V)} {pins : List (Addr × Obj)} {σ : L2.St} {H : Hp} {s : Shared} (hz : Zc (.ref D) d oe) (hf : ∃ vs, oe.data = .fields vs) (I : Inv (X.suite a ((a, oe) :: pn)) pins σ H s) (x : ExS H d fs) :
    ∃ od, PySem.W.InstAt s.heap a oe D od := by
  obtain ⟨vs, hv⟩ := hf
  obtain ⟨at_, _⟩ := I.pin (a, oe) (List.mem_append_left _ List.mem_cons_self)
  have nc : PySem.W.notCls oe = true := by
    unfold PySem.W.notCls
    rw [hv]
  rcases x with ⟨rfl, _⟩ | ⟨dx, rfl, _, h⟩
  · exact ⟨none, at_, hz.1, nc, by rw [hz.2]; trivial⟩
  · obtain ⟨mA, hns, _⟩ := exd_at I.hok h
    obtain ⟨o, ho, _⟩ := lookIn_ns hns
    exact ⟨some o, at_, hz.1, nc, by rw [hz.2]; exact ho⟩
/-- isinstance(e, c) and isinstance(e, (c, ..)) of the exception that is held -/
def rHis (K : PySem.W.Frag) (a : Addr) (cls : Value) (d : Option Addr) : List V → Hp → VK → Prop := fun xs H Q => ∃ (D : Addr) (fs : List (Str × V)) (b : Bool), cls = .ref D ∧ ExS H d fs ∧ PySem.W.XcC K D ∧
  ((∃ (c : V) (u : Value), xs = [.ref a, c] ∧ ClsV c u ∧ PySem.W.kitOne K (.ref D) u = some b) ∨ ∃ (tp : Addr) (cs : List V) (us : List Value), xs = [.ref a, .ref tp] ∧ H tp = some (.tup cs) ∧ Paired ClsV cs us ∧ PySem.W.kitAny K (.ref D) us = some b) ∧ Q (.bl b) H
theorem call_his (hz : Zc cls d oe) (hf : ∃ vs, oe.data = .fields vs) : CallR (X.suite a ((a, oe) :: pn)) (.builtin "isinstance") (rHis X.K a cls d) := by
  intro pins s σ H xs us Q I r h
  obtain ⟨D, fs, b, rfl, x, T, k, q⟩ := h
  obtain ⟨od, J⟩ := held hz hf I x
  rcases k with ⟨c, u, rfl, k, e⟩ | ⟨tp, cs, ws, rfl, hT, k, e⟩
  · obtain ⟨u1, u2, rfl, r1, r2⟩ := vals2 r
    cases r1
    have e2 := k.eq r2
    subst e2
    exact PySem.W.kia_one (T.kit (x := a) (ox := oe)) I.kIn ⟨od, J⟩ e (fun z => nomatch z) fun tk => ⟨.bl b, H, I.tok tk, rfl, q⟩
  · obtain ⟨u1, u2, rfl, r1, r2⟩ := vals2 r
    cases r1
    cases r2
    obtain ⟨_, its, rv, o, h1, h2, n, h3⟩ := (show ObjOk X.prog X.w H s.heap tp (.tup cs) from I.hok tp _ hT)
    have e3 := ClsV.all k rv
    subst e3
    obtain ⟨oc, oD, dt, sl⟩ := o
    simp only at h2 h3
    subst h2 h3
    exact PySem.W.kia_tup (T.kit (x := a) (ox := oe)) I.kIn ⟨od, J⟩ h1 e (fun z => nomatch z) fun tk => ⟨.bl b, H, I.tok tk, rfl, q⟩
/-- e.n of the exception that is held -/
def tHfld (K : PySem.W.Frag) (a : Addr) (cls : Value) (d : Option Addr) (n : Str) (te : TE) : TE := fun σ H Q => te σ H fun x H1 => ∃ (D : Addr) (fs : List (Str × V)) (v : V), x = .ref a ∧ cls = .ref D ∧ ExS H1 d fs ∧ PySem.W.XcC K D ∧ PySem.W.findIn K (.ref D) n = some none ∧ fs.lookup n = some v ∧ Q v H1
theorem pe_hfld {e : Expr} {te : TE} {pos : Pos} {n : Str} (hz : Zc cls d oe) (hf : ∃ vs, oe.data = .fields vs) (he : PE (X.suite a ((a, oe) :: pn)) e te) (hb : attributeBase e n X.env (eval e X.env) = eval e X.env := by rfl) :
    PE (X.suite a ((a, oe) :: pn)) (.Attribute e n pos) (tHfld X.K a cls d n te) where
  run := fun pins s σ H Q I h => by
    refine attr_of hb (thn (he.run pins s σ H _ I h) fun u s1 hh => ?_)
    obtain ⟨x, H1, I1, rx, D, fs, v, ex, ec, xs, T, no, l, q⟩ := hh
    subst ex ec
    cases rx
    rcases xs with ⟨_, e⟩ | ⟨dx, ed, _, h2⟩
    · rw [e] at l
      cases l
    · subst ed
      obtain ⟨vs, hv⟩ := hf
      obtain ⟨at_, _⟩ := I1.pin (a, oe) (List.mem_append_left _ List.mem_cons_self)
      obtain ⟨mA, hns, rel⟩ := exd_at I1.hok h2
      obtain ⟨o, ho, look⟩ := lookIn_ns hns
      obtain ⟨w, hw, rw_⟩ := RelO.some_of (v := v) (o := mA n) (by rw [← l]; exact rel n)
      have J : PySem.W.InstAt s1.heap a oe D (some o) := ⟨at_, hz.1, by unfold PySem.W.notCls; rw [hv] <;> rfl, by rw [hz.2]; exact ho⟩
      exact PySem.HandSPX.exc_get I1.kIn J T.get T.get2 T.exc (PySem.W.findObj_own T.dict no rfl (by rw [look, hw])) (handed_of rw_) ⟨v, H1, I1.tok _, rw_, q⟩
end
/-! ### f(k = v, ..) of a def that may raise -/
section
variable {X : Cx} {CT : CXT} {k : Nat} {f : Addr} {fd : FuncData} {ps ks : List Str} {sp : Sp} {E : L2.St → XK} {x : Str} {p pos : Pos} {kws : List Keyword} {t : TA}
theorem pe_callW (F : FnOk X.prog X.w X.K X.mg X.base CT k f fd ps sp) (room : Room k X.A) (hg : Gl X x) (hm : X.mg x = some (.ref f)) (keep : PySem.W.keepIn X.K (.ref f) = true)
    (bi : ∀ (s : Shared) (ws : List Value), X.K.In s.heap → ws.length = ks.length → BindsTo s fd ⟨[], ks.zip ws⟩ (ps.zip ws)) (lk : ks.length = ps.length) (pass : ∀ σ, PassesAt CT X σ (E σ))
    (ha : PK X kws t) (hall : (backToKw pos (keywordEach kws X.env)).all (·.1.isSome) = true := by rfl) (hks : (backToKw pos (keywordEach kws X.env)).filterMap (·.1) = ks := by rfl)
    (nd : (x == ("__debug__" : Str)) = false := by decide) (sn : ((backTo pos (starEach [] X.env)).any (·.1) || (backToKw pos (keywordEach kws X.env)).any (·.1.isNone)) = false := by rfl) :
    PE X (.Call (.Name x p) [] kws pos) (tCallS sp E t) where
  run := fun pins s σ H Q I h => by
    refine wpAny_Call_Name_kw (ld_glob I hg hm ?_ nd)
    refine PySem.W.callWith_KW0 (h₀ := X.base) I.ok.mod.kin keep hall (thn (ha.run pos pins s σ H _ I h) fun ws s1 ⟨vs, H1, I1, r1, q1⟩ => ⟨I1.kIn, ?_⟩) sn
    rw [hks]
    show wpAny _ _ (call (.ref f) [] (ks.zip ws)) _ _ _
    have lw : ws.length = ks.length := (r1.length.symm.trans (F.len _ _ _ _ q1)).trans lk.symm
    refine wpAny_call (codeAny_mono (F.run X.A X.stack s1 H1 ⟨[], ks.zip ws⟩ ws vs Q (E σ) room I1.env0 (bi s1 ws I1.kIn lw) r1 q1) fun r s' z => ?_)
    match r, z with
    | .error er, z => exact pass σ pins H1 s1 er s' I1 z
    | .ok (.ret u), z => exact I1.after z
end
end PSG

set_option Elab.async false
set_option linter.all false
set_option maxRecDepth 100000
set_option maxHeartbeats 4000000
namespace PSG
open PySem PySem.Spec L2
open PyProof.Rows (IntsAre AllBare)
/-- repr(x) of data, also in an except suite -/
theorem call_reprH {X : Cx} (un : X.A.units + 200 < cLine) (gd : X.A.guards = some []) : CallR X (.builtin "repr") rRep := by
  intro pins s σ H xs us Q I r ho
  obtain ⟨x, d, far, rfl, dq, cl, sh, sz, dp, q⟩ := ho
  obtain ⟨u, rfl, rx⟩ := vals1 r
  obtain ⟨as, rd, no1⟩ := dq.reads I rx
  have nosys : d.hasDict = true → sysModules ∉ as := fun z => no1 (cl z)
  have fin : ∀ t, EP X pins σ Q (.str d.shown t) s := fun t => ⟨.str _, H, I, ⟨_, rfl⟩, q⟩
  have got : ∀ h' (t tk : Tok), (∀ b o, s.heap.get? b = some o → h'.get? b = some o) → EP X pins σ Q (.str d.shown t) { s with heap := h', toks := tk } := fun h' t tk k => ⟨.str _, H, I.kept k, ⟨_, rfl⟩, q⟩
  cases rd with
  | none => exact P.repr_of_none ⟨.str _, H, I.tok _, ⟨_, rfl⟩, by simpa only [PyData.shown] using q⟩
  | bool b =>
    refine P.repr_of_bool ⟨.str _, H, I.tok _, ⟨_, rfl⟩, ?_⟩
    simp only [PyData.shown] at q
    cases b <;> exact q
  | int i t => exact P.repr_of_int (by simpa [PyData.showable] using sh) ⟨.str _, H, I.tok _, ⟨_, rfl⟩, by simpa only [PyData.shown] using q⟩
  | str z t =>
    simp only [PyData.shown] at q sz
    exact P.repr_of_str ⟨.str _, H, I.tok _, ⟨_, rfl⟩, q⟩ sz
  | list h1 h2 h3 h4 => exact repr_of_reads' (Reads.list h1 h2 h3 h4) sh nosys gd (by omega) (fun _ _ z => z) (fun h' u tk k => got h' _ tk k) sz
  | tuple h1 h2 h3 h4 => exact repr_of_reads' (Reads.tuple h1 h2 h3 h4) sh nosys gd (by omega) (fun _ _ z => z) (fun h' u tk k => got h' _ tk k) sz
  | dict h1 h2 h3 h4 h5 => exact repr_of_reads' (Reads.dict h1 h2 h3 h4 h5) sh nosys gd (by omega) (fun _ _ z => z) (fun h' u tk k => got h' _ tk k) sz
theorem room_units {n : Nat} {A : Around} (r : Room n A) : A.units + 200 < cLine := by
  have h := r.un
  omega
end PSG

set_option Elab.async false
set_option linter.all false
set_option maxRecDepth 100000
set_option maxHeartbeats 4000000
namespace PSG
open PySem PySem.Spec L2
open PyProof.Rows (IntsAre AllBare)
/-! ### the exception that is held, where a pin bears it -/
section
variable {X : Cx} {a : Addr} {oe : Obj} {cls : Value} {d : Option Addr}
theorem heldP {D : Addr} {fs : List (Str × V)} {pins : List (Addr × Obj)} {σ : L2.St} {H : Hp} {s : Shared} (hp : (a, oe) ∈ X.pn) (hz : Zc (.ref D) d oe) (hf : ∃ vs, oe.data = .fields vs) (I : Inv X pins σ H s) (x : ExS H d fs) :
    ∃ od, PySem.W.InstAt s.heap a oe D od := by
  obtain ⟨vs, hv⟩ := hf
  obtain ⟨at_, _⟩ := I.pin (a, oe) (List.mem_append_left _ hp)
  have nc : PySem.W.notCls oe = true := by
    unfold PySem.W.notCls
    rw [hv]
  rcases x with ⟨rfl, _⟩ | ⟨dx, rfl, _, h⟩
  · exact ⟨none, at_, hz.1, nc, by rw [hz.2]; trivial⟩
  · obtain ⟨mA, hns, _⟩ := exd_at I.hok h
    obtain ⟨o, ho, _⟩ := lookIn_ns hns
    exact ⟨some o, at_, hz.1, nc, by rw [hz.2]; exact ho⟩
theorem call_hisP (hp : (a, oe) ∈ X.pn) (hz : Zc cls d oe) (hf : ∃ vs, oe.data = .fields vs) : CallR X (.builtin "isinstance") (rHis X.K a cls d) := by
  intro pins s σ H xs us Q I r h
  obtain ⟨D, fs, b, rfl, x, T, k, q⟩ := h
  obtain ⟨od, J⟩ := heldP hp hz hf I x
  rcases k with ⟨c, u, rfl, k, e⟩ | ⟨tp, cs, ws, rfl, hT, k, e⟩
  · obtain ⟨u1, u2, rfl, r1, r2⟩ := vals2 r
    cases r1
    have e2 := k.eq r2
    subst e2
    exact PySem.W.kia_one (T.kit (x := a) (ox := oe)) I.kIn ⟨od, J⟩ e (fun z => nomatch z) fun tk => ⟨.bl b, H, I.tok tk, rfl, q⟩
  · obtain ⟨u1, u2, rfl, r1, r2⟩ := vals2 r
    cases r1
    cases r2
    obtain ⟨_, its, rv, o, h1, h2, n, h3⟩ := (show ObjOk X.prog X.w H s.heap tp (.tup cs) from I.hok tp _ hT)
    have e3 := ClsV.all k rv
    subst e3
    obtain ⟨oc, oD, dt, sl⟩ := o
    simp only at h2 h3
    subst h2 h3
    exact PySem.W.kia_tup (T.kit (x := a) (ox := oe)) I.kIn ⟨od, J⟩ h1 e (fun z => nomatch z) fun tk => ⟨.bl b, H, I.tok tk, rfl, q⟩
theorem pe_hfldP {e : Expr} {te : TE} {pos : Pos} {n : Str} (hp : (a, oe) ∈ X.pn) (hz : Zc cls d oe) (hf : ∃ vs, oe.data = .fields vs) (he : PE X e te) (hb : attributeBase e n X.env (eval e X.env) = eval e X.env := by rfl) :
    PE X (.Attribute e n pos) (tHfld X.K a cls d n te) where
  run := fun pins s σ H Q I h => by
    refine attr_of hb (thn (he.run pins s σ H _ I h) fun u s1 hh => ?_)
    obtain ⟨x, H1, I1, rx, D, fs, v, ex, ec, xs, T, no, l, q⟩ := hh
    subst ex ec
    cases rx
    rcases xs with ⟨_, e⟩ | ⟨dx, ed, nn, h2⟩
    · rw [e] at l
      cases l
    · obtain ⟨od, J⟩ := heldP hp hz hf I1 (.inr ⟨dx, ed, nn, h2⟩)
      subst ed
      obtain ⟨mA, hns, rel⟩ := exd_at I1.hok h2
      obtain ⟨o, ho, look⟩ := lookIn_ns hns
      obtain ⟨w, hw, rw_⟩ := RelO.some_of (v := v) (o := mA n) (by rw [← l]; exact rel n)
      obtain ⟨vs, hv⟩ := hf
      obtain ⟨at_, _⟩ := I1.pin (a, oe) (List.mem_append_left _ hp)
      have J2 : PySem.W.InstAt s1.heap a oe D (some o) := ⟨at_, hz.1, by unfold PySem.W.notCls; rw [hv] <;> rfl, by rw [hz.2]; exact ho⟩
      exact PySem.HandSPX.exc_get I1.kIn J2 T.get T.get2 T.exc (PySem.W.findObj_own T.dict no rfl (by rw [look, hw])) (handed_of rw_) ⟨v, H1, I1.tok _, rw_, q⟩
end
/-! ### a def that is called within an except suite, and may ask the exception that is held -/
structure FnE (P : Program) (w : World) (K : PySem.W.Frag) (mg : Str → Option Value) (base : Heap) (n : Nat) (at_ : Addr) (fd : FuncData) (ps : List Str) (sp : Addr × Obj → Sp) : Prop where
  many : ∀ p vs H Q E, sp p vs H Q E → vs.length = ps.length
  goes : ∀ (B : Around) (up : List Env) (s : Shared) (H : Hp) (ar : Args) (us : List Value) (vs : List V) (Q : VK) (E : XK) (p : Addr × Obj),
    L2H.RoomH n B → B.guards = some [] → L2H.PinOk up H s p → Env0 P w K mg base B up s H → BindsTo s fd ar (ps.zip us) → Vals vs us → sp p vs H Q E →
    codeAny (model P w) B (.call (.ref at_) ar) (CR CX0 up P w H s Q E) s
section
variable {P : Program} {w : World} {K : PySem.W.Frag} {mg : Str → Option Value} {base : Heap}
theorem fnE {n : Nat} {x ql : Str} {st : Stmt} {at_ : Addr} {fd : FuncData} {N ps : List Str} {sp : Addr × Obj → Sp} (F : Fun K x ql st at_ fd) (S : FnScope N ps (defScope st)) (many : ∀ p vs H Q E, sp p vs H Q E → vs.length = ps.length)
    (main : ∀ (cdv : Value) (B : Around) (up : List Env) (s : Shared) (H : Hp) (vs : List V) (Q : VK) (E : XK) (p : Addr × Obj), L2H.RoomH n (B.deeper (PyProof.Rows.envOfC ql (defScope st) s.heap.objs.size at_ cdv)) → B.guards = some [] → sp p vs H Q E →
      ∃ t, PSs (L2H.cxH CX0 P w K mg base N ql (defScope st) at_ cdv B up s H E p).nox (defBody st) t ∧ t { nx := fun _ G => Q .non G, rt := Q } (L2.start N vs) H) : FnE P w K mg base (n + 1) at_ fd ps sp where
  many := many
  goes := by
    obtain ⟨oc, od, kV, doc, pm, an, cdv, ct, osl, rfl, lk, hcd⟩ := F.ex
    intro B up s H ar us vs Q E p room gd pin en bi va ho
    have keepB : ∀ b o, base.get? b = some o → s.heap.get? b = some o := fun b o z => (en.bs b o z).1
    have atK := en.mod.kin.keeps keepB
    refine codeAny_call_function room.depth (atK _ _ lk) rfl S.co S.gen rfl (PySem.W.codeRec_of atK hcd) (bi _ _ _ _ ?_)
    refine wpAny_newFunctionEnv_cells S.kind (fun y hy => ?_) fun env he t1 x => ?_
    · obtain ⟨n, v⟩ := y
      cases S.par n (List.of_mem_zip hy).1 with
      | inl z => exact .inl z
      | inr z => exact .inr ⟨z, PySem.W.cellsFrom_some _ _ _ (.inl z)⟩
    · cases he
      refine ⟨(en.mod.nolimit.keeps keepB).keeps x.toInCall.keep, codeAny_func ?_⟩
      obtain ⟨t, der, rd⟩ := main cdv B up s H vs Q E p (room.deeper _) gd ho
      have J := L2H.inv_startH (CX := CX0) (E := E) S pin en (many _ _ _ _ _ ho) va x
      refine wpAny_mono (der.nox.run [] t1 _ H _ J rd) ?_ fun _ _ z => z
      intro fl t2 z
      cases fl with
      | next =>
        obtain ⟨_, G, J2, q⟩ := z
        exact ⟨V.non, G, J2.os, J2.bare, J2.base, J2.hok, rfl, q⟩
      | ret u =>
        obtain ⟨v, _, G, J2, rel, q⟩ := z
        exact ⟨v, G, J2.os, J2.bare, J2.base, J2.hok, rel, q⟩
      | brk => exact (show False from z.choose_spec.choose_spec.2).elim
      | cont => exact (show False from z.choose_spec.choose_spec.2).elim
end
/-- f(e, ..) in the suite -/
def tCallE (p : Addr × Obj) (sp : Addr × Obj → Sp) (t : TA) : TE := fun σ H Q => t σ H fun vs H1 => sp p vs H1 Q (fun _ _ _ => False)
section
variable {X : Cx} {n : Nat} {at_ : Addr} {fd : FuncData} {ps : List Str} {sp : Addr × Obj → Sp} {x : Str} {pa pos : Pos} {e : Expr} {es : List Expr} {t : TA} {p : Addr × Obj}
theorem pe_callE (F : FnE X.prog X.w X.K X.mg X.base n at_ fd ps sp) (hp : p ∈ X.pn) (room : L2H.RoomH n X.A) (gd : X.A.guards = some []) (hg : Gl X x) (hm : X.mg x = some (.ref at_)) (keep : PySem.W.keepIn X.K (.ref at_) = true)
    (bi : Binds X.K fd ps []) (ha : PA X (e :: es) t) (nd : (x == ("__debug__" : Str)) = false := by decide)
    (se : starEach (e :: es) X.env = (false, eval e X.env) :: starEach es X.env := by rfl) (sn : (backTo pos (starEach es X.env)).any (·.1) = false := by rfl) :
    PE X (.Call (.Name x pa) (e :: es) [] pos) (tCallE p sp t) where
  run := fun pins s σ H Q I h => by
    refine wpAny_Call_Name_kw (ld_glob I hg hm (PySem.W.callWith_K (h₀ := X.base) I.ok.mod.kin keep (thn (ha.run pos pins s σ H _ I h) fun us s1 ⟨vs, H1, I1, r, q⟩ => ⟨I1.kIn, ?_⟩) se sn) nd)
    have many : us.length = ps.length := r.length.symm.trans (F.many _ _ _ _ _ q)
    have b := bi s1 us I1.kIn (by rw [List.append_nil]; exact many)
    rw [List.append_nil] at b
    obtain ⟨g1, g2, g3, g4, g5⟩ := I1.pin p (List.mem_append_left _ hp)
    have pin : L2H.PinOk X.stack H1 s1 p := ⟨g1, g2, fun hm => (List.mem_cons.mp (I1.stkSub p.1 hm)).elim g3 g4, g5⟩
    refine wpAny_call (codeAny_mono (F.goes X.A X.stack s1 H1 ⟨us, []⟩ us vs Q (fun _ _ _ => False) p room gd pin I1.env0 b r q) fun r s' z => ?_)
    match r, z with
    | .error er, z => exact z.elim
    | .ok (.ret u), z => exact I1.after z
/-- .. as the suite's own wish, which knows the exception's class and dict alone -/
def tCallH (a : Addr) (cls : Value) (d : Option Addr) (sp : Addr × Obj → Sp) (t : TA) : TE := fun σ H Q => t σ H fun vs H1 => ∀ oe : Obj, Zc cls d oe → (∃ ws, oe.data = .fields ws) → sp (a, oe) vs H1 Q (fun _ _ _ => False)
theorem pe_callH {a : Addr} {oe : Obj} {cls : Value} {d : Option Addr} {pn : List (Addr × Obj)} (hz : Zc cls d oe) (hf : ∃ ws, oe.data = .fields ws) (F : FnE X.prog X.w X.K X.mg X.base n at_ fd ps sp) (room : Room n X.A) (gd : X.A.guards = some []) (hg : Gl X x) (hm : X.mg x = some (.ref at_))
    (keep : PySem.W.keepIn X.K (.ref at_) = true) (bi : Binds X.K fd ps []) (ha : PA (X.suite a ((a, oe) :: pn)) (e :: es) t) (nd : (x == ("__debug__" : Str)) = false := by decide)
    (se : starEach (e :: es) X.env = (false, eval e X.env) :: starEach es X.env := by rfl) (sn : (backTo pos (starEach es X.env)).any (·.1) = false := by rfl) :
    PE (X.suite a ((a, oe) :: pn)) (.Call (.Name x pa) (e :: es) [] pos) (tCallH a cls d sp t) where
  run := fun pins s σ H Q I h => by
    refine wpAny_Call_Name_kw (ld_glob (X := X.suite a ((a, oe) :: pn)) I hg hm (PySem.W.callWith_K (h₀ := X.base) I.ok.mod.kin keep (thn (ha.run pos pins s σ H _ I h) fun us s1 ⟨vs, H1, I1, r, q⟩ => ⟨I1.kIn, ?_⟩) se sn) nd)
    have q := q oe hz hf
    have many : us.length = ps.length := r.length.symm.trans (F.many _ _ _ _ _ q)
    have b := bi s1 us I1.kIn (by rw [List.append_nil]; exact many)
    rw [List.append_nil] at b
    obtain ⟨g1, g2, g3, g4, g5⟩ := I1.pin (a, oe) (List.mem_append_left _ List.mem_cons_self)
    have pin : L2H.PinOk X.stack H1 s1 (a, oe) := ⟨g1, g2, fun hm => (List.mem_cons.mp (I1.stkSub a hm)).elim g3 g4, g5⟩
    refine wpAny_call (codeAny_mono (F.goes (X.A.mark (some (.ref a))) X.stack s1 H1 ⟨us, []⟩ us vs Q (fun _ _ _ => False) (a, oe) ⟨room.dp, room.un⟩ gd pin I1.env0 b r q) fun r s' z => ?_)
    match r, z with
    | .error er, z => exact z.elim
    | .ok (.ret u), z => exact I1.after z
theorem room_hot {n : Nat} {A : Around} (r : Room n A) (h : Option Value) : L2H.RoomH n (A.mark h) := ⟨r.dp, r.un⟩
theorem roomH_units {n : Nat} {A : Around} (r : L2H.RoomH n A) : A.units + 200 < cLine := by
  have h := r.un
  omega
end
end PSG

set_option Elab.async false
set_option linter.all false
set_option maxRecDepth 100000
set_option maxHeartbeats 8000000
namespace PSG
open PySem PySem.Spec L2
open PyProof.Rows (IntsAre AllBare)
/-! ### what a thing is -/
def tyD : PyData → String
  | .none => "NoneType"
  | .bool _ => "bool"
  | .int _ => "int"
  | .str _ => "str"
  | .list _ => "list"
  | .tuple _ => "tuple"
  | .dict _ => "dict"
theorem Dt.ty {K : PySem.W.Frag} {far : Bool} {H : Hp} {v : V} {d : PyData} (h : Dt far H v d) : TyX K H v (.type (tyD d)) := by
  cases h with
  | non => exact .base .non
  | bl b => exact .base (.bl b)
  | int i => exact .base (.int i)
  | str x => exact .base (.str x)
  | lst e _ _ => exact .base (.lst e)
  | tup e _ => exact .base (.tup e)
  | dict e _ => exact .base (.dK e)
def isI : PyData → Bool
  | .int _ => true
  | .bool _ => true
  | _ => false
def isB : PyData → Bool
  | .bool _ => true
  | _ => false
def isS : PyData → Bool
  | .str _ => true
  | _ => false
theorem kit_int {K : PySem.W.Frag} (d : PyData) : PySem.W.kitOne K (.type (tyD d)) (.type "int") = some (isI d) := by cases d <;> kernel_rfl
theorem kit_bool {K : PySem.W.Frag} (d : PyData) : PySem.W.kitOne K (.type (tyD d)) (.type "bool") = some (isB d) := by cases d <;> kernel_rfl
theorem kit_str {K : PySem.W.Frag} (d : PyData) : PySem.W.kitOne K (.type (tyD d)) (.type "str") = some (isS d) := by cases d <;> kernel_rfl
def isT : PyData → Bool
  | .tuple _ => true
  | _ => false
theorem kit_tuple {K : PySem.W.Frag} (d : PyData) : PySem.W.kitOne K (.type (tyD d)) (.type "tuple") = some (isT d) := by cases d <;> kernel_rfl
/-- [.. for c in text] -/
theorem lc_str {x : Str} {g : TG} {tt : TT} {te : TE} {vs : List Nat} {σ : L2.St} {H1 : Hp} {D : Addr} {Qd : Hp → Prop} (Pv : Nat → Hp → Prop) (h0 : Pv 0 (upd H1 D (.lst [])))
    (hs : ∀ i c H, x.cps[i]? = some c → Pv i H → g (.str ⟨#[c]⟩) (wipe σ vs) H fun σ2 H2 => wipe σ2 vs = wipe σ vs ∧ tt σ2 H2 fun b H3 =>
      if b = true then te σ2 H3 fun y H4 => ∃ acc, H4 D = some (.lst acc) ∧ acc.length < sizeLine ∧ Pv (i + 1) (upd H4 D (.lst (acc ++ [y]))) else Pv (i + 1) H3) (hd : ∀ H, Pv x.cps.size H → Qd H) :
    ∃ W : Nat → Nat → Hp → Prop, (∃ m, W 0 m (upd H1 D (.lst []))) ∧ ∀ i m H, W i m H →
      ((Its x).stop i H ∧ Qd H) ∨ ((Its x).go i H ∧ ∃ Nx : Hp → Prop, (∀ H', Nx H' → ∃ m', m' < m ∧ W (i + 1) m' H') ∧ ∀ v H', (Its x).yld i H v H' → g v (wipe σ vs) H' fun σ2 H2 => wipe σ2 vs = wipe σ vs ∧ tt σ2 H2 fun b H3 =>
        if b = true then te σ2 H3 fun y H4 => ∃ acc, H4 D = some (.lst acc) ∧ acc.length < sizeLine ∧ Nx (upd H4 D (.lst (acc ++ [y]))) else Nx H3) := by
  refine ⟨fun i m H => m = x.cps.size - i ∧ i ≤ x.cps.size ∧ Pv i H, ⟨_, rfl, Nat.zero_le _, h0⟩, fun i m H hw => ?_⟩
  obtain ⟨e, le, p⟩ := hw
  by_cases lt : i < x.cps.size
  · refine .inr ⟨lt, Pv (i + 1), fun H' q => ⟨x.cps.size - (i + 1), by omega, rfl, lt, q⟩, fun v H' y => ?_⟩
    obtain ⟨rfl, c, hc, rfl⟩ := y
    exact hs i c _ hc p
  · have e2 : i = x.cps.size := by omega
    refine .inl ⟨Nat.le_of_not_lt lt, hd H ?_⟩
    rw [← e2]
    exact p
/-- data with a short text, not deep -/
structure Fine (d : PyData) : Prop where
  sh : d.showable = true
  ln : d.shown.length ≤ 1000
  dp : d.depth ≤ 6
  ok : PyData.strOk d.shown = true
/-- a class of the package: its name, and how it is made -/
structure Own (P : Program) (w : World) (K : PySem.W.Frag) (mg : Str → Option Value) (base : Heap) (x : Str) (C : Addr) (fn : List Str) : Prop where
  glob : mg x = some (.ref C)
  made : ∃ (fI : Addr) (fd : FuncData) (ps : List Str) (B newId initId : String) (bmB : List Value), Xk K C fI B newId initId bmB ∧ FnOk P w K mg base CX0 1 fI fd ps (spXI C fn) ∧ Binds K fd ps [] ∧ ps.length = fn.length + 1
section
variable {X : Cx} {x : Str} {C : Addr} {fn : List Str} {p pos : Pos} {e : Expr} {es : List Expr} {t : TA}
theorem pmk_own1 (T : Own X.prog X.w X.K X.mg X.base x C fn) (hr : Room 2 X.A) (hg : Gl X x) (ha : PA X (e :: es) t) (nd : (x == ("__debug__" : Str)) = false := by decide)
    (se : starEach (e :: es) X.env = (false, eval e X.env) :: starEach es X.env := by rfl) (sn : (backTo pos (starEach es X.env)).any (·.1) = false := by rfl) : PMk X (.Call (.Name x p) (e :: es) [] pos) (tPmk C fn t) := by
  obtain ⟨fI, fd, ps, B, n1, n2, bm, T1, F, b, l⟩ := T.made
  exact pmk_xk T1 F hr b l hg T.glob ha nd se sn
theorem pmk_own0 (T : Own X.prog X.w X.K X.mg X.base x C []) (hr : Room 2 X.A) (hg : Gl X x) (nd : (x == ("__debug__" : Str)) = false := by decide) : PMk X (.Call (.Name x p) [] [] pos) (tPmk C [] tNil) := by
  obtain ⟨fI, fd, ps, B, n1, n2, bm, T1, F, b, l⟩ := T.made
  exact pmk_xk0 T1 F hr b l hg T.glob nd
end
theorem rep_thing {H : Hp} {v : V} {d : PyData} {Q : VK} (hd : Dt true H v d) (n : Fine d) (q : Q (.str d.shown) H) : rRep [v] H Q := by
  have h1 := n.ln
  have h2 := n.dp
  exact ⟨v, d, true, rfl, hd, fun _ => .inl rfl, n.sh, by rw [sizeLine_eq]; omega, by omega, q⟩
theorem ofString_ok (s : String) : PyData.strOk (Str.ofString s) = true := by
  unfold PyData.strOk
  rw [Str.ofString_eq_toList, Array.all_eq_true_iff_forall_mem]
  intro c hc
  simp only [List.mem_toArray, List.mem_map] at hc
  obtain ⟨ch, _, rfl⟩ := hc
  have v : ch.val.toNat < 0xd800 ∨ (0xdfff < ch.val.toNat ∧ ch.val.toNat < 0x110000) := ch.valid
  have e : ch.toNat = ch.val.toNat := rfl
  refine decide_eq_true ?_
  omega
theorem nice_small {i : Int} (h : i.natAbs ≤ 10 ^ 31) : Fine (.int i) := by
  refine ⟨?_, ?_, by simp [PyData.depth], ofString_ok _⟩
  · have lg : i.natAbs.log2 < 1920 := PySem.Flt.log2_lt_of (by decide) (Nat.lt_of_le_of_lt h (by decide +kernel))
    exact decide_eq_true lg
  · have e := PySem.int_text_length_le10 (k := 32) (a := i) (by decide) (Nat.lt_of_le_of_lt h (by decide +kernel))
    show (Str.ofString (toString i)).length ≤ 1000
    rw [PySem.ofString_length]
    omega
theorem okG {P : Program} {w : World} {K : PySem.W.Frag} {mg : Str → Option Value} {base : Heap} {x ql : Str} {st : Stmt} {f : Addr} {fd : FuncData} {N ps : List Str} {n : Nat} {sp : Sp} (F : Fun K x ql st f fd) (S : FnScope N ps (defScope st))
    (many : ∀ vs H Q E, sp vs H Q E → vs.length = ps.length)
    (main : ∀ (cdv : Value) (B : Around) (up : List Env) (s : Shared) (H : Hp) (vs : List V) (Q : VK) (E : XK), Room n (B.deeper (PyProof.Rows.envOfC ql (defScope st) s.heap.objs.size f cdv)) → B.guards = some [] → sp vs H Q E →
      ∃ t, PSs (cxOf CX0 P w K mg base N ql (defScope st) f cdv B up s H E).nox (defBody st) t ∧ t { nx := fun _ G => Q .non G, rt := Q } (start N vs) H) : FnG P w K mg base CX0 (n + 1) f fd ps sp := by
  obtain ⟨oc, od, kV, doc, pm, an, cdv, ct, osl, rfl, lk, hcd⟩ := F.ex
  refine fnG lk hcd S many fun B up s H vs Q E room gd ho => ?_
  obtain ⟨t, der, rd⟩ := main cdv B up s H vs Q E room gd ho
  exact ⟨t, der.nox, rd⟩
theorem fine_dec {d : PyData} (h : (d.showable && decide (d.shown.length ≤ 1000) && decide (d.depth ≤ 6) && PyData.strOk d.shown) = true) : Fine d := by
  simp only [Bool.and_eq_true, decide_eq_true_eq] at h
  exact ⟨h.1.1.1, h.1.1.2, h.1.2, h.2⟩
theorem dt_to {B H H' : Hp} {r : Addr} {v : V} {d : PyData} (h : Dt true (news B H) v d) (b : But r H H') (there : ∃ o, B r = some o) : Dt true H' v d := (h.same (news_but b there)).same news_sub
theorem strs_dp {K : PySem.W.Frag} {H : Hp} : ∀ l : List Str, DpAll K H (l.map V.str) (l.map PyData.str)
  | [] => .nil
  | x :: l => .cons (.str x) (strs_dp l)
theorem strs_lay : ∀ l : List Str, (∀ x ∈ l, PyData.strOk x = true) → PyData.canLayAll0 (l.map PyData.str) = true
  | [], _ => by simp [PyData.canLayAll0]
  | x :: l, h => by simp [PyData.canLayAll0, PyData.canLay0, h x List.mem_cons_self, strs_lay l fun y hy => h y (List.mem_cons_of_mem _ hy)]
theorem strs_depth : ∀ l : List Str, PyData.depthAll (l.map PyData.str) ≤ 1
  | [] => by simp [PyData.depthAll]
  | x :: l => by
    have ih := strs_depth l
    simp only [List.map_cons, PyData.depthAll, PyData.depth]
    omega
theorem strs_shaped {l : List Str} (h : ∀ x ∈ l, PyData.strOk x = true) : SeqAt.shaped (.list (l.map PyData.str)) = true := by
  have d := strs_depth l
  unfold SeqAt.shaped
  have e : (PyData.list (l.map PyData.str)).canLay0 = true := by simp only [PyData.canLay0, strs_lay l h]
  have e2 : (PyData.list (l.map PyData.str)).depth ≤ 64 := by simp only [PyData.depth]; omega
  rw [e, decide_eq_true e2]
  rfl
/-- two lists of the same texts are not unlike -/
theorem ne_strs {K : PySem.W.Frag} {H : Hp} {a p : Addr} {l : List Str} {Q : VK} (ok : ∀ x ∈ l, PyData.strOk x = true) (h1 : H a = some (.lst (l.map V.str))) (h2 : H p = some (.lst (l.map V.str))) (q : Q (.bl false) H) : rNeD K (.ref a) (.ref p) H Q := by
  refine ⟨_, _, .lst (SqL.of h1) (strs_dp l), .lst (SqL.of h2) (strs_dp l), strs_shaped ok, strs_shaped ok, ?_⟩
  rw [PySem.SeqAt.eqv_refl _ (by simp only [PyData.canLay0, strs_lay l ok])]
  exact q
/-- what the end asks of a class, in one look -/
def look (K : PySem.W.Frag) (C f : Addr) (bmB : List Value) (newId : String) (fs : List Str) : Bool :=
  PySem.W.excInitIn K C bmB newId && (PySem.W.excOver K C bmB && (PySem.W.hasDictIn K C && (decide (PySem.W.findIn K (.ref C) "__setattr__" = some (some (.builtin "object.__setattr__"))) &&
  (decide (PySem.W.typeIn K (.ref f) = some (.type "function")) && (PySem.W.keepIn K (.ref C) && (decide (PySem.W.subIn K (.ref C) (.type "BaseException") = some true) && (decide (PySem.W.typeIn K (.ref C) = some (.type "type")) &&
  (decide (PySem.W.findIn K (.ref C) "__getattribute__" = some (some (.builtin "BaseException.__getattribute__"))) && (decide (PySem.W.findIn K (.ref C) "__getattr__" = some none) && (decide (PySem.W.findIn K (.ref C) "__class__" = some (some (.builtin "object.__class__"))) &&
  (decide (PySem.W.mroIn K C (.type "object") = some true) && fs.all fun f => decide (PySem.W.findIn K (.ref C) f = some none))))))))))))
structure Look (K : PySem.W.Frag) (C f : Addr) (bmB : List Value) (newId : String) (fs : List Str) : Prop where
  made : PySem.W.excInitIn K C bmB newId = true
  over : PySem.W.excOver K C bmB = true
  dict : PySem.W.hasDictIn K C = true
  set : PySem.W.findIn K (.ref C) "__setattr__" = some (some (.builtin "object.__setattr__"))
  fn : PySem.W.typeIn K (.ref f) = some (.type "function")
  keep : PySem.W.keepIn K (.ref C) = true
  exc : PySem.W.subIn K (.ref C) (.type "BaseException") = some true
  ty : PySem.W.typeIn K (.ref C) = some (.type "type")
  get : PySem.W.findIn K (.ref C) "__getattribute__" = some (some (.builtin "BaseException.__getattribute__"))
  get2 : PySem.W.findIn K (.ref C) "__getattr__" = some none
  cls : PySem.W.findIn K (.ref C) "__class__" = some (some (.builtin "object.__class__"))
  obj : PySem.W.mroIn K C (.type "object") = some true
  no : ∀ f ∈ fs, PySem.W.findIn K (.ref C) f = some none
theorem look_ok {K : PySem.W.Frag} {C f : Addr} {bmB : List Value} {newId : String} {fs : List Str} (h : look K C f bmB newId fs = true) : Look K C f bmB newId fs := by
  unfold look at h
  simp only [Bool.and_eq_true, decide_eq_true_eq, List.all_eq_true] at h
  obtain ⟨h1, h2, h3, h4, h5, h6, h7, h8, h9, h10, h11, h12, h13⟩ := h
  exact ⟨h1, h2, h3, h4, h5, h6, h7, h8, h9, h10, h11, h12, h13⟩
theorem Look.xk {K : PySem.W.Frag} {C f : Addr} {B newId initId : String} {bmB : List Value} {fs : List Str} (L : Look K C f bmB newId fs) (i : PySem.W.findIn K (.ref C) "__init__" = some (some (.ref f))) (fb : ExcBaseFacts B newId initId bmB)
    (sf : StoreFacts B bmB "object.__setattr__" "object") : Xk K C f B newId initId bmB := ⟨fb, sf, L.made, L.over, L.dict, L.set, i, L.fn, L.keep, L.exc, L.ty⟩
theorem Look.xc {K : PySem.W.Frag} {C f : Addr} {newId : String} {bmB : List Value} {fs : List Str} (L : Look K C f bmB newId fs) (d1 : PySem.W.specialIn K (.builtin "object.__class__") "__get__" = some (some (.builtin "getset_descriptor.__get__")))
    (d2 : PySem.W.takesIn K (.builtin "object.__class__") = some true) : PySem.W.XcC K C := ⟨L.get, L.get2, L.exc, L.dict, L.cls, d1, d2, L.obj⟩
theorem ws_0 {ws : List V} (h : ws.length = ([] : List Str).length) : ws = [] := List.eq_nil_of_length_eq_zero h
theorem ws_1 {x : Str} {ws : List V} (h : ws.length = [x].length) : ∃ v, ws = [v] := match ws, h with | [v], _ => ⟨v, rfl⟩
end PSG

set_option Elab.async false
set_option linter.all false
set_option maxRecDepth 100000
set_option maxHeartbeats 8000000
namespace PSG
open PySem PySem.Spec L2
open PyProof.Rows (IntsAre AllBare)
/-- list(sequence): new, and not sys.modules -/
def rListF (K : PySem.W.Frag) : List V → Hp → VK → Prop := fun xs H Q => ∃ p ys, xs = [.ref p] ∧ (SqL K H p ys ∨ SqT K H p ys) ∧ ∀ l, H l = none → l ≠ sysModules → Q (.ref l) (upd H l (.lst ys))
theorem call_list_ofF {X : Cx} : CallR X (.type "list") (rListF X.K) := by
  intro pins s σ H xs us Q I r ho
  obtain ⟨p, ys, rfl, where_, q⟩ := ho
  obtain ⟨u, rfl, rx⟩ := vals1 r
  cases rx
  have far : s.heap.objs.size ≠ sysModules := Nat.ne_of_gt I.big
  have done : ∀ (its : List Value) (g : Heap) (n : Nat), Vals ys its → ys.length ≤ sizeLine → (∀ b o, s.heap.get? b = some o → g.get? b = some o) → g.get? s.heap.objs.size = some { cls := .type "list", dict := none, data := .seq its.toArray n, slots := #[] } →
      EP X pins σ Q (.ref s.heap.objs.size) { s with heap := g } := fun its g n rv sz k e =>
    ⟨.ref s.heap.objs.size, _, I.laid (t' := s.toks) k (Nat.le_refl _) (show ObjOk X.prog X.w _ g _ (.lst ys) from ⟨sz, its, n, rv, e⟩), rfl, q _ (I.hok.fresh (Nat.le_refl _)) far⟩
  rcases where_ with w | w
  · obtain ⟨its, rv, pl, sz⟩ := I.list w
    have len := rv.length
    obtain ⟨o, ho, hc, n, hd⟩ := pl.isList
    refine call_list_seq p (.inl rfl) ho hc hd (fun g n k e => done its g n rv sz k e) ?_
    simp only [List.size_toArray] <;> omega
  · obtain ⟨its, rv, pl, sz⟩ := I.tuple w
    have len := rv.length
    obtain ⟨o, ho, hc, n, hd⟩ := pl
    refine call_list_seq p (.inr rfl) ho hc hd (fun g n k e => done its g n rv sz k e) ?_
    simp only [List.size_toArray] <;> omega
/-! ### texts of tuples of small things -/
theorem ok_app {x y : Str} (h1 : PyData.strOk x = true) (h2 : PyData.strOk y = true) : PyData.strOk (x ++ y) = true := by
  unfold PyData.strOk at *
  show (x.cps ++ y.cps).all _ = true
  rw [Array.all_append, h1, h2]
  rfl
theorem ok_join {sep : Str} (hs : PyData.strOk sep = true) : ∀ ts : List Str, (∀ t ∈ ts, PyData.strOk t = true) → PyData.strOk (Str.join sep ts) = true
  | [], _ => by
    show PyData.strOk (⟨#[]⟩ : Str) = true
    decide +kernel
  | [x], h => h x List.mem_cons_self
  | x :: y :: r, h => ok_app (ok_app (h x List.mem_cons_self) hs) (ok_join hs (y :: r) fun t ht => h t (List.mem_cons_of_mem _ ht))
theorem ok_tuple {ts : List Str} (h : ∀ t ∈ ts, PyData.strOk t = true) : PyData.strOk (tupleText ts) = true := by
  unfold tupleText
  refine ok_app (ok_app (by decide +kernel) (ok_join (by decide +kernel) ts h)) ?_
  split <;> decide +kernel
/-- a thing that may stand within a tuple -/
structure El (d : PyData) : Prop where
  sh : d.showable = true
  ln : d.shown.length ≤ 40
  dp : d.depth ≤ 4
  ok : PyData.strOk d.shown = true
theorem el_dec {d : PyData} (h : (d.showable && decide (d.shown.length ≤ 40) && decide (d.depth ≤ 4) && PyData.strOk d.shown) = true) : El d := by
  simp only [Bool.and_eq_true, decide_eq_true_eq] at h
  exact ⟨h.1.1.1, h.1.1.2, h.1.2, h.2⟩
theorem els_all : ∀ {ds : List PyData}, (∀ d ∈ ds, El d) → PyData.showableAll ds = true ∧ ((PyData.shownAll ds).map (·.length)).sum ≤ 40 * ds.length ∧ PyData.depthAll ds ≤ 4 ∧ (PyData.shownAll ds).length = ds.length ∧ ∀ t ∈ PyData.shownAll ds, PyData.strOk t = true
  | [], _ => by simp [PyData.showableAll, PyData.shownAll, PyData.depthAll]
  | d :: ds, h => by
    obtain ⟨h1, h2, h3, h4, h5⟩ := els_all (ds := ds) fun x hx => h x (List.mem_cons_of_mem _ hx)
    have n := h d List.mem_cons_self
    have n2 := n.ln
    have n3 := n.dp
    refine ⟨by simp only [PyData.showableAll, n.sh, h1, Bool.and_self], ?_, ?_, ?_, ?_⟩
    · simp only [PyData.shownAll, List.map_cons, List.sum_cons, List.length_cons]
      omega
    · simp only [PyData.depthAll]
      omega
    · simp only [PyData.shownAll, List.length_cons, h4]
    · intro t ht
      simp only [PyData.shownAll, List.mem_cons] at ht
      rcases ht with rfl | ht
      · exact n.ok
      · exact h5 t ht
theorem fine_tuple {ds : List PyData} (few : ds.length ≤ 21) (h : ∀ d ∈ ds, El d) : Fine (.tuple ds) := by
  obtain ⟨h1, h2, h3, h4, h5⟩ := els_all h
  refine ⟨by simpa only [PyData.showable] using h1, ?_, ?_, ok_tuple h5⟩
  · have l := tupleText_len_le (PyData.shownAll ds)
    show (tupleText (PyData.shownAll ds)).length ≤ 1000
    omega
  · simp only [PyData.depth]
    omega
end PSG

set_option Elab.async false
set_option linter.all false
set_option maxRecDepth 100000
set_option maxHeartbeats 4000000
/-! tuple(text) -/
namespace PSZ
open PySem PySem.Spec
section
variable {prog : Program} {w : World} {A : Around} {E : Value → Shared → Prop} {s : Shared} {x : Str} {t : Tok}
/-- what is laid: the signs of the text, one by one -/
def Laid (s : Shared) (x : Str) (q : Value → Shared → Prop) : Prop :=
  ∀ (s' : Shared) (acc : Array Value), (∀ b o, s.heap.get? b = some o → s'.heap.get? b = some o) → s'.gens = s.gens → s'.drawn = s.drawn → s'.os = s.os → ItemsOf (SignAt x) acc x.cps.size →
    q (.ref s'.heap.objs.size) { s' with heap := s'.heap.push { cls := .type "tuple", data := .seq acc } }
theorem text_new {q : Value → Shared → Prop} (hd : A.handled = none) (few : x.cps.size ≤ sizeLine) (h : Laid s x q) : codeAny (model prog w) A (.call (.builtin "tuple.__new__") ⟨[.type "tuple", .str x t], []⟩) (wants q E) s := by
  refine codeAny_of_tree ?_
  show wpAny _ A.in1 (do checkBuiltinCall "tuple.__new__" ⟨[.type "tuple", .str x t], []⟩; again (.builtin "tuple.__new__" ⟨[.type "tuple", .str x t], []⟩)) _ _ s
  refine wpAny_bind (wpAny_of_eq (F.newCall_tuple_1 _) (wpAny_pure ⟨plainId_quiet F.plain_tuple_new _, codeAny_builtin F.entry_tuple_new ?_⟩))
  rw [Around.under_plainId F.plain_tuple_new _]
  have k1 := sub_tuple_self
  have k2 := init_tuple_lookup
  have k3 := madeHere_tuple
  have ty : s.TypeIs (.str x t) "str" := typeIs_str _ _ _
  have hd1 : A.in1.handled = none := hd
  wp_walk using wpAny_typeOf ty, wpAny_collect_str (A := A.in1) hd1 x t
  first
    | (intro s' acc k e1 e2 e3 its
       show wpAny _ _ (Builtin.Tuple.tupleExact acc.toList.toArray >>= fun v => ret v) _ _ _
       unfold Builtin.Tuple.tupleExact
       refine wpAny_bind (wpAny_newObj_type ?_ (by show acc.toList.toArray.size ≤ sizeLine; simp only [Array.toArray_toList]; rw [its.1]; exact few))
       refine wpAny_pure ?_
       have e : acc.toList.toArray = acc := by simp
       rw [e]
       exact h s' acc k e1 e2 e3 its)
    | skip
theorem call_text {Q : Value → Shared → Prop} (hd : A.handled = none) (few : x.cps.size ≤ sizeLine) (h : Laid s x Q) : wpAny (model prog w) A (call (.type "tuple") [.str x t]) Q E s := by
  refine callType_codes (Q₁ := fun obj s₁ => s₁.TypeIs obj "tuple" ∧ Q obj s₁) F.called_tuple (F.typeCall_tuple_1 _) F.entry_object_init
    (text_new (A := A.in1) hd few fun s' acc k e1 e2 e3 its => ⟨⟨_, Heap.get?_push_size _ rfl, rfl⟩, h s' acc k e1 e2 e3 its⟩) fun obj s₁ h₁ => ?_
  exact ⟨h₁.1, F.args_object_init_2 obj _, object_init_meets F.called_tuple.init.lookup F.called_tuple.made (by decide) prog w A.in1 _ s₁ ⟨h₁.1, rfl, h₁.2⟩⟩
end
end PSZ
namespace PSG
open PySem PySem.Spec L2
open PyProof.Rows (IntsAre AllBare)
theorem signs_vals : ∀ (cs : List Nat) (us : List Value), us.length = cs.length → (∀ (j : Nat) (v : Value), us[j]? = some v → ∃ (c : Nat) (u : Tok), cs[j]? = some c ∧ v = Value.str ⟨#[c]⟩ u) → Vals (cs.map fun c => V.str ⟨#[c]⟩) us
  | [], [], _, _ => .nil
  | [], _ :: _, h, _ => by cases h
  | _ :: _, [], h, _ => by cases h
  | c :: cs, u :: us, h, k => by
    obtain ⟨d, t, e1, e2⟩ := k 0 u rfl
    have e3 : c = d := by simpa using e1
    subst e3 e2
    exact .cons ⟨t, rfl⟩ (signs_vals cs us (by simpa using h) fun j v e => k (j + 1) v (by simpa using e))
def rTupS : List V → Hp → VK → Prop := fun xs H Q => ∃ x : Str, xs = [.str x] ∧ x.length ≤ 1000 ∧ ∀ l, H l = none → Q (.ref l) (upd H l (.tup (x.cps.toList.map fun c => V.str ⟨#[c]⟩)))
theorem call_tupleS {X : Cx} (calm : X.calm = true) : CallR X (.type "tuple") rTupS := by
  intro pins s σ H xs us Q I r h
  obtain ⟨x, rfl, few, q⟩ := h
  obtain ⟨u, rfl, t, rfl⟩ := vals1 r
  have few2 : x.cps.size ≤ sizeLine := by
    have e : x.cps.size = x.length := rfl
    rw [sizeLine_eq]
    omega
  refine PSZ.call_text (I.ok.hd calm) few2 fun s' acc k e1 e2 e3 its => ?_
  obtain ⟨h', g', d', t', o'⟩ := s'
  dsimp only at e1 e2 e3 k
  subst e1 e2 e3
  have I1 : Inv X pins σ H { s with heap := h', toks := t' } := I.kept (t' := t') k
  have va : Vals (x.cps.toList.map fun c => V.str ⟨#[c]⟩) acc.toList := signs_vals _ _ (by rw [Array.length_toList, Array.length_toList]; exact its.1) fun j v e => by
    obtain ⟨c, u, e4, e5⟩ := its.2 j v (by rw [← Array.getElem?_toList]; exact e)
    exact ⟨c, u, by rw [Array.getElem?_toList]; exact e4, e5⟩
  have I2 := I1.laid (t' := t') (a := h'.objs.size) (h' := h'.push { cls := .type "tuple", data := .seq acc }) (o := .tup (x.cps.toList.map fun c => V.str ⟨#[c]⟩)) (fun b o e => Heap.get?_push_of_some _ e) (Nat.le_refl _)
    ⟨by rw [List.length_map, Array.length_toList]; exact few2, acc.toList, va, ⟨_, Heap.get?_push_size _ rfl, rfl, 0, by simp⟩⟩
  exact ⟨.ref h'.objs.size, _, I2, rfl, q _ (I1.hok.fresh (Nat.le_refl _))⟩
end PSG

set_option Elab.async false
set_option linter.all false
set_option maxRecDepth 100000
set_option maxHeartbeats 8000000
/-! sets of numbers and texts, with what a walk over them wants: add, set(xs), len, sorted -/
namespace PSS
open PySem PySem.Spec PyProof.Rows L2
instance memK (k : Key) (L : List Key) : Decidable (k ∈ L) := @List.instDecidableMemOfLawfulBEq Key instBEqOfDecidableEq inferInstance k L
def kOf : Value → Key
  | .int i _ => .inl i
  | .str x _ => .inr x
  | _ => .inl 0
theorem kOf_rel {k : Key} {u : Value} (r : RelV (kV k) u) : kOf u = k := by
  cases k with
  | inl i => obtain ⟨t, rfl⟩ := r; rfl
  | inr x => obtain ⟨t, rfl⟩ := r; rfl
abbrev eK (e : Int × Value) : Key := kOf e.2
def Ent (P : Program) (w : World) (e : Int × Value) : Prop := ∃ k : Key, RelV (kV k) e.2 ∧ e.1 = (mixKind P w).hash k
theorem ent_is {P : Program} {w : World} {e : Int × Value} (n : Ent P w e) (k : Key) : (mixKind P w).is k e.2 = true ↔ eK e = k := by
  obtain ⟨j, r, _⟩ := n
  have i1 : (mixKind P w).is j e.2 = true := kV_is r
  rw [show eK e = j from kOf_rel r]
  exact ⟨fun z => (mixKind P w).inj _ _ _ i1 z, fun z => z ▸ i1⟩
theorem ents_el {P : Program} {w : World} {es : List (Int × Value)} (n : ∀ e ∈ es, Ent P w e) : ElemsOf (mixKind P w) es := by
  intro e he
  obtain ⟨j, r, h⟩ := n e he
  exact ⟨⟨j, kV_is r, h⟩, key_scan r⟩
theorem ents_mem {P : Program} {w : World} {es : List (Int × Value)} (n : ∀ e ∈ es, Ent P w e) (k : Key) : k ∈ es.map eK ↔ ∃ e ∈ es, (mixKind P w).is k e.2 = true := by
  rw [List.mem_map]
  exact ⟨fun ⟨e, he, z⟩ => ⟨e, he, (ent_is (n e he) k).2 z⟩, fun ⟨e, he, z⟩ => ⟨e, he, (ent_is (n e he) k).1 z⟩⟩
/-- the set at a has just the keys L -/
structure Is (P : Program) (w : World) (h : Heap) (a : Addr) (L : List Key) (o : Obj) (es : Array (Int × Value)) (ep : Nat) (t : SetTable) : Prop where
  at_ : h.get? a = some o
  ex : o.ExactSet
  da : o.data = .set es ep t
  en : ∀ e ∈ es.toList, Ent P w e
  pm : (es.toList.map eK).Perm L
  nd : L.Nodup
  sz : L.length < scanBound
  ft : t.fits es.size = true
  ri : Ris t.place.toList
  le : w.params.followText "set-order" = true ∨ t.led = true
def SetM (P : Program) (w : World) (h : Heap) (a : Addr) (L : List Key) : Prop := ∃ o es ep t, Is P w h a L o es ep t
section
variable {P : Program} {w : World} {h h' : Heap} {a : Addr} {L : List Key} {o : Obj} {es : Array (Int × Value)} {ep : Nat} {t : SetTable}
theorem Is.len (I : Is P w h a L o es ep t) : es.size = L.length := by
  have e := I.pm.length_eq
  rw [List.length_map, Array.length_toList] at e
  exact e
theorem SetM.to (M : SetM P w h a L) (k : ∀ o, h.get? a = some o → h'.get? a = some o) : SetM P w h' a L := by
  obtain ⟨o, es, ep, t, I⟩ := M
  exact ⟨o, es, ep, t, { I with at_ := k o I.at_ }⟩
theorem SetM.setOf (M : SetM P w h a L) : h.SetOf (mixKind P w) a (fun k => decide (k ∈ L)) L.length := by
  obtain ⟨o, es, ep, t, I⟩ := M
  refine ⟨o, es, ep, t, I.at_, I.ex, I.da, ents_el I.en, fun k => ?_, by rw [I.len]; exact I.sz, I.ft, I.len⟩
  rw [decide_eq_true_eq, ← I.pm.mem_iff]
  exact ents_mem I.en k
theorem SetM.perm {L' : List Key} (M : SetM P w h a L) (p : L.Perm L') : SetM P w h a L' := by
  obtain ⟨o, es, ep, t, I⟩ := M
  exact ⟨o, es, ep, t, { I with pm := I.pm.trans p, nd := p.nodup_iff.mp I.nd, sz := by rw [← p.length_eq]; exact I.sz }⟩
end
/-- k put in -/
def ins (L : List Key) (k : Key) : List Key := if k ∈ L then L else L ++ [k]
theorem ins_old {L : List Key} {k : Key} (m : k ∈ L) : ins L k = L := if_pos m
theorem ins_new {L : List Key} {k : Key} (m : k ∉ L) : ins L k = L ++ [k] := if_neg m
theorem mem_ins {L : List Key} {k j : Key} : j ∈ ins L k ↔ j ∈ L ∨ j = k := by
  unfold ins
  split
  · next m => exact ⟨.inl, fun z => z.elim id fun e => e ▸ m⟩
  · simp
theorem nd_ins {L : List Key} (n : L.Nodup) (k : Key) : (ins L k).Nodup := by
  unfold ins
  split
  · exact n
  · next m =>
    refine List.nodup_append.mpr ⟨n, by simp, fun x hx y hy e => m ?_⟩
    have e2 : y = k := by simpa using hy
    rw [← e2, ← e]
    exact hx
theorem len_ins (L : List Key) (k : Key) : (ins L k).length ≤ L.length + 1 := by
  unfold ins
  split
  · omega
  · simp
section
variable {P : Program} {w : World} {A : Around} {E : Value → Shared → Prop} {s : Shared} {a : Addr} {L : List Key}
/-- the end of an add: what was laid is stored, and laid anew where it is too full -/
theorem add_end {note : Bool → Sem Unit} (hg : ∀ (b : Bool) (s₁ : Shared) (Q' : Unit → Shared → Prop), Q' () s₁ → wpAny (model P w) A (note b) Q' E s₁)
    {o : Obj} {es fs : Array (Int × Value)} {ep : Nat} {t u : SetTable} (ho : s.heap.get? a = some o) (hex : o.ExactSet) (hd : o.data = .set es ep t)
    (en : ∀ e ∈ fs.toList, Ent P w e) (pm : (fs.toList.map eK).Perm L) (nd : L.Nodup) (sz : L.length < scanBound) (ft : u.fits fs.size = true) (ri : Ris u.place.toList) (le : w.params.followText "set-order" = true ∨ u.led = true)
    {dummy : Bool} {R : Option Bool → Shared → Prop} (hR : ∀ g, Heap.SameBut a s.heap g → SetM P w g a L → R (some true) { s with heap := g }) :
    wpAny (model P w) A (do
        storeSet a fs u
        if (!dummy && u.tooFull) = true then do
            note (relayAll u fs (SetTable.grown fs.size)).2.2
            storeSet a (relayAll u fs (SetTable.grown fs.size)).1 (relayAll u fs (SetTable.grown fs.size)).2.1
            pure (some true)
          else pure (some true)) R E s := by
  have fsz : fs.size = L.length := by
    have e := pm.length_eq
    rw [List.length_map, Array.length_toList] at e
    exact e
  have fb : fs.size < scanBound := by rw [fsz]; exact sz
  have o1 := store_at (es' := fs) (t' := u) ho hd
  have b1 := Heap.SameBut.update s.heap a (Obj.putSet fs u)
  refine wpAny_bind (wpAny_storeSet_of ho hd ?_ (fits_of_scanBound fb))
  by_cases full : (!dummy && u.tooFull) = true
  · rw [if_pos full]
    have p2 := relayAll_perm u fs (SetTable.grown fs.size)
    have f2 := relayAll_fits u fs (SetTable.grown fs.size)
    have r2 := relayAll_ris u fs (SetTable.grown fs.size)
    have l2 := relayAll_led u fs (SetTable.grown fs.size)
    generalize relayAll u fs (SetTable.grown fs.size) = Z at p2 f2 r2 l2 ⊢
    obtain ⟨gs, v, gave⟩ := Z
    dsimp only at p2 f2 r2 l2 ⊢
    have gsz : gs.size = fs.size := by
      have e := p2.length_eq
      rw [Array.length_toList, Array.length_toList] at e
      exact e
    have gb : gs.size < scanBound := by omega
    refine wpAny_bind (hg _ _ _ (wpAny_bind (wpAny_storeSet_of o1 rfl ?_ (fits_of_scanBound gb))))
    have o2 := store_at (es' := gs) (t' := v) o1 rfl
    exact wpAny_pure (hR _ (b1.trans (Heap.SameBut.update _ a _)) ⟨_, gs, _, v,
      { at_ := o2, ex := hex, da := rfl, en := fun e he => en e (p2.mem_iff.mp he), pm := (p2.map eK).trans pm, nd := nd, sz := sz, ft := f2, ri := r2, le := le.imp id fun z => by rw [l2]; exact z }⟩)
  · rw [if_neg full]
    exact wpAny_pure (hR _ b1 ⟨_, fs, _, u, { at_ := o1, ex := hex, da := rfl, en := en, pm := pm, nd := nd, sz := sz, ft := ft, ri := ri, le := le }⟩)
theorem add_hashed {k : Key} {x : Value} (rx : RelV (kV k) x) {Q : Bool → Shared → Prop} (M : SetM P w s.heap a L) (room : L.length + 1 < scanBound)
    (hQ : ∀ g b, Heap.SameBut a s.heap g → SetM P w g a (ins L k) → Q b { s with heap := g }) :
    wpAny (model P w) A (setAddHashed a x ((mixKind P w).hash k)) Q E s := by
  obtain ⟨o, es, ep, t, I⟩ := M
  have ik : (mixKind P w).is k x = true := kV_is rx
  have sc : x.scannable = true := key_scan rx
  have el : ElemsOf (mixKind P w) es.toList := ents_el I.en
  have eb : es.size < scanBound := by rw [I.len]; exact I.sz
  unfold setAddHashed setAddHashedIn
  refine wpAny_holding (wpAny_bind (wpAny_setState_of I.at_ I.da I.ft ?_))
  dsimp only
  rw [byScan_of sc eb el]
  simp only [↓reduceIte]
  unfold setAddByScan
  refine wpAny_bind (wpAny_bind (wpAny_rule (wpAny_bind (wpAny_setScan_of ik I.at_ I.da I.ft el ?_))))
  cases found : List.findIdx? (fun e => (mixKind P w).is k e.2) es.toList with
  | some j =>
    obtain ⟨hj, pj, _⟩ := List.findIdx?_eq_some_iff_getElem.mp found
    have old : k ∈ L := I.pm.mem_iff.mp ((ents_mem I.en k).2 ⟨_, List.getElem_mem hj, pj⟩)
    dsimp only
    refine wpAny_pure (wpAny_pure (hQ s.heap _ (Heap.SameBut.refl a s.heap) ?_))
    rw [ins_old old]
    exact ⟨o, es, ep, t, I⟩
  | none =>
    dsimp only
    have new : k ∉ L := fun z => by
      obtain ⟨e, he, q⟩ := (ents_mem I.en k).1 (I.pm.mem_iff.mpr z)
      have c := List.findIdx?_eq_none_iff.mp found e he
      rw [q] at c
      cases c
    have note : ∀ (b : Bool) (s₁ : Shared) (Q' : Unit → Shared → Prop), Q' () s₁ → wpAny (model P w) A (match b with | true => rule "set.scan.the-table-gave-way" | false => pure ()) Q' E s₁ := by
      intro b s₁ Q' q
      cases b
      · exact wpAny_pure q
      · exact wpAny_rule q
    have p1 := layNew_perm t es ((mixKind P w).hash k) x
    have f1 := layNew_fits t es ((mixKind P w).hash k) x
    have r1 := layNew_ris t es ((mixKind P w).hash k) x I.ri
    have l1 := layNew_led t es ((mixKind P w).hash k) x
    generalize layNew t es ((mixKind P w).hash k) x = Z at p1 f1 r1 l1 ⊢
    obtain ⟨fs, u, dummy, gave⟩ := Z
    dsimp only at p1 f1 r1 l1 ⊢
    rw [Array.toList_push] at p1
    have p2 : fs.toList.Perm (es.toList ++ [((mixKind P w).hash k, x)]) := p1
    have p3 : (fs.toList.map eK).Perm (L ++ [k]) := by
      have z := p2.map eK
      rw [List.map_append] at z
      have ek : eK ((mixKind P w).hash k, x) = k := kOf_rel rx
      rw [show List.map eK [((mixKind P w).hash k, x)] = [k] from by rw [List.map_cons, ek] <;> rfl] at z
      exact z.trans (I.pm.append_right _)
    have e1 : ∀ e ∈ fs.toList, Ent P w e := fun e he => by
      rcases List.mem_append.mp (p2.mem_iff.mp he) with z | z
      · exact I.en e z
      · rw [List.mem_singleton.mp z]
        exact ⟨k, rx, rfl⟩
    have n1 : (L ++ [k]).Nodup := by
      rw [← ins_new new]
      exact nd_ins I.nd k
    have z1 : (L ++ [k]).length < scanBound := by
      rw [List.length_append]
      exact room
    have led1 : w.params.followText "set-order" = true ∨ u.led = true := I.le.imp id fun z => by rw [l1]; exact z
    have fin : ∀ g, Heap.SameBut a s.heap g → SetM P w g a (L ++ [k]) → Q true { s with heap := g } := fun g sb m => hQ g true sb (by rw [ins_new new]; exact m)
    refine wpAny_bind (note _ _ _ ?_)
    split
    · refine wpAny_bind ?_
      rw [hashByValue_scannable 8 sc]
      refine wpAny_pure (add_end note I.at_ I.ex I.da e1 p3 n1 z1 ?_ ?_ ?_ fun g sb m => wpAny_pure (fin g sb m))
      · first | exact f1 | (split <;> first | exact f1 | exact SetTable.fits_plain_off f1)
      · first | exact r1 | (split <;> exact r1)
      · first | exact led1 | (split <;> exact led1)
    · refine wpAny_bind (wpAny_pure ?_)
      simp only [↓reduceIte]
      exact add_end note I.at_ I.ex I.da e1 p3 n1 z1 f1 r1 led1 fun g sb m => wpAny_pure (fin g sb m)
end
end PSS

set_option Elab.async false
set_option linter.all false
set_option maxRecDepth 100000
set_option maxHeartbeats 8000000
/-! set(xs) of a list or a tuple of keys -/
namespace PSS
open PySem PySem.Spec PyProof.Rows L2
/-- the different keys of a list, in sequence -/
def sof (ks : List Key) : List Key := ks.foldl ins []
theorem sof_app (ks : List Key) (k : Key) : sof (ks ++ [k]) = ins (sof ks) k := by
  unfold sof
  rw [List.foldl_append]
  rfl
theorem sof_take {ks : List Key} {i : Nat} {k : Key} (h : ks[i]? = some k) : sof (ks.take (i + 1)) = ins (sof (ks.take i)) k := by
  rw [List.take_add_one, h]
  exact sof_app _ _
theorem foldl_nd : ∀ (ks L : List Key), L.Nodup → (ks.foldl ins L).Nodup
  | [], _, h => h
  | k :: ks, _, h => foldl_nd ks _ (nd_ins h k)
theorem foldl_mem : ∀ (ks L : List Key) (j : Key), j ∈ ks.foldl ins L ↔ j ∈ L ∨ j ∈ ks
  | [], L, j => by simp
  | k :: ks, L, j => by
    rw [List.foldl_cons, foldl_mem ks (ins L k) j, mem_ins, List.mem_cons]
    exact or_assoc
theorem foldl_len : ∀ (ks L : List Key), (ks.foldl ins L).length ≤ L.length + ks.length
  | [], _ => Nat.le_refl _
  | k :: ks, L => by
    have a := foldl_len ks (ins L k)
    have b := len_ins L k
    rw [List.foldl_cons, List.length_cons]
    omega
theorem nd_sof (ks : List Key) : (sof ks).Nodup := foldl_nd ks [] List.nodup_nil
theorem mem_sof {ks : List Key} {j : Key} : j ∈ sof ks ↔ j ∈ ks := by
  rw [show sof ks = ks.foldl ins [] from rfl, foldl_mem]
  simp
theorem len_sof (ks : List Key) : (sof ks).length ≤ ks.length := by
  have a := foldl_len ks []
  simpa [sof] using a
theorem led0 (w : World) : w.params.followText "set-order" = true ∨ (SetTable.fresh 0 0 (!w.params.followText "set-order")).led = true := by
  show _ ∨ (!w.params.followText "set-order") = true
  cases w.params.followText "set-order"
  · exact .inr rfl
  · exact .inl rfl
section
variable {prog : Program} {w : World} {A : Around} {E : Value → Shared → Prop} {s : Shared}
/-- a built-in class is called: its __new__, the check of its __init__, its __init__ -/
theorem type_run {T nid iid : String} {Bi : Builtin} {xs : List Value} {Q Q₁ : Value → Shared → Prop} (ft : TypeCalled T nid iid) (ok : checkTypeCall T ⟨xs, []⟩ = pure ()) (ent : entryFor table iid = some Bi)
    (new : codeAny (model prog w) A.in1 (.call (.builtin nid) ⟨.type T :: xs, []⟩) (wants Q₁ E) s)
    (next : ∀ x s₁, Q₁ x s₁ → s₁.TypeIs x T ∧ codeAny (model prog w) A.in1 (.call (.builtin iid) ⟨x :: xs, []⟩) (wants (fun r s₂ => r = .none ∧ Q x s₂) E) s₁) :
    wpAny (model prog w) A (call (.type T) xs) Q E s := by
  obtain ⟨c, tl, z0⟩ := ft.mro
  have z1 := ft.made
  have z2 := ft.sub
  refine wpAny_call (codeAny_of_tree ?_)
  show wpAny _ _ (callAny (.type T) _) _ _ _
  refine wpAny_pure ⟨Code.quiet_builtin _ (by decide +kernel), codeAny_builtin F.entry_type_call ?_⟩
  rw [Around.under_plain (weight_type_call_type T xs []) rfl]
  have z3 := ft.notType
  have z4 := ft.canCreate
  repeat (any_goals (first | assumption | wp_step))
  refine codeAny_mono new fun r s₁ hr => ?_
  cases r with
  | error e => exact hr
  | ok fl =>
    cases fl with
    | ret x =>
      obtain ⟨tx, cx⟩ := next _ _ hr
      have z5 := ft.init.lookup
      have z6 := ft.init.bind x
      repeat (any_goals (first | assumption | wp_step))
      refine codeAny_mono cx fun r₂ s₂ hr₂ => ?_
      cases r₂ with
      | error e => exact hr₂
      | ok fl₂ =>
        cases fl₂ with
        | ret r =>
          obtain ⟨rfl, q⟩ := hr₂
          repeat (any_goals (first | assumption | wp_step))
        | _ => exact hr₂.elim
    | _ => exact hr.elim
end
abbrev clean (w : World) : Obj := { cls := .type "set", dict := none, data := .set #[] 0 (.fresh 0 0 (!w.params.followText "set-order")) }
section
variable {P : Program} {w : World} {A : Around} {E : Value → Shared → Prop} {s : Shared}
theorem setM_clean {h : Heap} {a : Addr} (ha : h.get? a = some (clean w)) : SetM P w h a [] :=
  ⟨_, #[], 0, _, { at_ := ha, ex := ⟨rfl, rfl, rfl⟩, da := rfl, en := (fun e he => by simp at he), pm := .nil, nd := List.nodup_nil, sz := (by decide), ft := (by rfl), ri := List.Pairwise.nil, le := led0 w }⟩
theorem upd_loop {I : Addr} {fp wr : List Addr} {G : Array GenState → Array GenState → Prop} {n : Nat} {Pv : Nat → Value → Prop} {St : Nat → Shared → Prop} {R : Result → Shared → Prop}
    (W : WalksS P w A.in1 I fp wr G n Pv St) {a : Addr} (ha : a ∉ fp) {ks : List Key} (hn : n = ks.length) (few : ks.length + 1 < scanBound) (hv : ∀ i v, Pv i v → ∃ k, ks[i]? = some k ∧ RelV (kV k) v) :
    ∀ (m i : Nat) (s : Shared), n - i = m → i ≤ n → St i s → SetM P w s.heap a (sof (ks.take i)) →
      (∀ s', Moved (a :: wr) G s s' → SetM P w s'.heap a (sof ks) → R (.ok (.ret .none)) s') →
      codeAny (model P w) A (.builtin "set.update.loop" ⟨[.ref a, .ref I], []⟩) R s := by
  have haw : a ∉ wr := fun z => ha (W.sub _ z)
  have more : ∀ b ∈ wr, b ∈ a :: wr := fun b z => List.mem_cons_of_mem _ z
  intro m
  induction m with
  | zero =>
    intro i s hm hi st M hR
    obtain rfl : i = n := by omega
    refine codeAny_builtin F.entry_set_update_loop ?_
    rw [Around.under_plainId F.plain_set_update_loop _]
    show wpAny _ A.in1 (pyNext (.ref I) >>= _) _ _ s
    refine wpAny_bind (W.done s _ _ st fun s' mv => ?_)
    show wpAny _ A.in1 (ret Value.none) _ _ s'
    refine wpAny_pure (hR s' (mv.mono more) ?_)
    have M2 := M.to fun o e => mv.heap a o haw e
    rw [hn, List.take_length] at M2
    exact M2
  | succ m ih =>
    intro i s hm hi st M hR
    have lt : i < n := by omega
    refine codeAny_builtin F.entry_set_update_loop ?_
    rw [Around.under_plainId F.plain_set_update_loop _]
    show wpAny _ A.in1 (pyNext (.ref I) >>= _) _ _ s
    refine wpAny_bind (W.item i s _ _ lt st fun v s1 hP st1 mv => ?_)
    obtain ⟨k, hk, rv⟩ := hv i v hP
    have M1 := M.to fun o e => mv.heap a o haw e
    have few1 : (sof (ks.take i)).length + 1 < scanBound := by
      have z := len_sof (ks.take i)
      rw [List.length_take] at z
      omega
    show wpAny _ A.in1 (holding [v] (setAdd a v) >>= _) _ _ s1
    refine wpAny_bind (wpAny_holding ?_)
    unfold setAdd
    refine wpAny_holding (wpAny_bind ((mixKind P w).pyHash (kV_is rv) ?_))
    refine add_hashed (s := { s1 with toks := s1.toks + 1 }) rv M1 few1 fun g b sb M2 => ?_
    rw [← sof_take hk] at M2
    refine wpAny_pure ⟨plainId_quiet F.plain_set_update_loop _, ih (i + 1) _ (by omega) lt (W.frame _ s1 _ _ st1 (Nat.le_succ _) fun b hb o e => ?_) M2 fun s2 mv2 M3 => ?_⟩
    · rw [sb.2 b fun z : b = a => ha (z ▸ hb)]
      exact e
    · refine hR s2 (Moved.trans W.gtrans ((mv.mono more).then_heap (Nat.le_succ _) fun b o hb e => ?_) mv2) M3
      rw [sb.2 b fun z : b = a => hb (z ▸ List.mem_cons_self)]
      exact e
theorem vals_at {ks : List Key} {us : List Value} (r : Vals (ks.map kV) us) {i : Nat} {v : Value} (h : us[i]? = some v) : ∃ k, ks[i]? = some k ∧ RelV (kV k) v := by
  have lt : i < ks.length := by
    have e := r.length
    rw [List.length_map] at e
    rw [e]
    exact (List.getElem?_eq_some_iff.mp h).1
  obtain ⟨u, hu, ru⟩ := r.get (i := i) (x := kV ks[i]) (by simp [lt])
  rw [h] at hu
  cases hu
  exact ⟨ks[i], List.getElem?_eq_getElem lt, ru⟩
theorem call_set {l : Addr} {us : List Value} {ks : List Key} {Q : Value → Shared → Prop} (hh : A.handled = none) (hl : s.heap.IsList l us.toArray ∨ s.heap.IsTuple l us.toArray) (rv : Vals (ks.map kV) us) (few : ks.length + 1 < scanBound)
    (q : ∀ (g : Heap) (tk : Nat), SetM P w g s.heap.objs.size (sof ks) → (∀ b o, s.heap.get? b = some o → g.get? b = some o) → Q (.ref s.heap.objs.size) { s with heap := g, toks := tk }) :
    wpAny (model P w) A (call (.type "set") [.ref l]) Q E s := by
  refine type_run (Q₁ := fun x s₁ => x = .ref s.heap.objs.size ∧ s₁ = { s with heap := s.heap.push (clean w) }) F.called_set (F.typeCall_set_1 _) F.entry_set_init (code_set_led1 (.ref l) ⟨rfl, rfl⟩) fun x s₁ hx => ?_
  obtain ⟨rfl, rfl⟩ := hx
  have aS : (s.heap.push (clean w)).get? s.heap.objs.size = some (clean w) := Heap.get?_push_size _ rfl
  have tS : Shared.TypeIs { s with heap := s.heap.push (clean w) } (.ref s.heap.objs.size) "set" := ⟨_, aS, rfl⟩
  refine ⟨tS, codeAny_call_builtin F.called_set.init.plain F.entry_set_init (check_set_init_1 tS ?_)⟩
  have lS : l < s.heap.objs.size := by
    rcases hl with ⟨o, e, _⟩ | ⟨o, e, _⟩ <;> exact Heap.lt_size e
  have hh3 : A.in1.in1.in1.handled = none := by simp [hh]
  have nI : l ≠ (s.heap.push (clean w)).objs.size := by
    rw [Heap.size_push]
    exact Nat.ne_of_lt (Nat.lt_succ_of_lt lS)
  have nS : s.heap.objs.size ∉ [(s.heap.push (clean w)).objs.size, l] := by
    rw [Heap.size_push]
    simp only [List.mem_cons, List.not_mem_nil, or_false, not_or]
    exact ⟨Nat.ne_of_lt (Nat.lt_succ_self _), Nat.ne_of_gt lS⟩
  have hv : ∀ (i : Nat) (v : Value), us.toArray[i]? = some v → ∃ k, ks[i]? = some k ∧ RelV (kV k) v := fun i v e => vals_at rv (by rw [List.getElem?_toArray] at e; exact e)
  have hn : us.toArray.size = ks.length := by rw [List.size_toArray, ← rv.length, List.length_map]
  rcases hl with hl | hl
  · obtain ⟨⟨ocls, odict, odata, oslots⟩, hol, hcl, nl, hdl⟩ := hl
    simp only at hcl hdl
    subst hcl hdl
    have hol1 : (s.heap.push (clean w)).get? l = some { cls := .type "list", dict := odict, data := .seq us.toArray nl, slots := oslots } := Heap.get?_push_of_some _ hol
    have y1 := F.sub_list_set
    have y2 := F.sub_list_frozenset
    have y3 : (Value.type "list" == Value.type "dict") = false := by decide
    have hl1 : (s.heap.push (clean w)).IsList l us.toArray := ⟨_, hol1, rfl, nl, rfl⟩
    unfold Builtin.«set.__init__» noKeywords Builtin.Frozenset.updateFrom
    generalize hPI : pyIter = PI
    wp_walk
    subst hPI

    refine wpAny_pyIter_list hl1 (wpAny_bind (wpAny_runValue ?_))
    refine upd_loop ((Walks.list hh3 _ l nI us.toArray).toS) nS hn few hv (us.toArray.size - 0) 0 _ (by omega) (Nat.zero_le _) ⟨⟨_, Heap.get?_push_size _ rfl, rfl, rfl⟩, hl1.push _⟩ (setM_clean (Heap.get?_push_of_some _ aS)) fun s' mv M => ?_
    obtain ⟨h', g', d', tk', os'⟩ := s'
    obtain rfl : g' = s.gens := mv.gens
    obtain rfl : d' = s.drawn := mv.drawn
    obtain rfl : os' = s.os := mv.os
    show wpAny _ _ _ _ _ _
    refine wpAny_pure ?_
    show wpAny _ _ (ret Value.none) _ _ _
    refine wpAny_pure ⟨rfl, q h' tk' M fun b o e => ?_⟩
    have lt := Heap.lt_size e
    refine mv.heap b o ?_ (Heap.get?_push_of_some _ (Heap.get?_push_of_some _ e))
    simp only [List.mem_cons, List.not_mem_nil, or_false, not_or]
    exact ⟨Nat.ne_of_lt lt, by rw [Heap.size_push]; exact Nat.ne_of_lt (Nat.lt_succ_of_lt lt)⟩
  · obtain ⟨⟨ocls, odict, odata, oslots⟩, hol, hcl, nl, hdl⟩ := hl
    simp only at hcl hdl
    subst hcl hdl
    have hol1 : (s.heap.push (clean w)).get? l = some { cls := .type "tuple", dict := odict, data := .seq us.toArray nl, slots := oslots } := Heap.get?_push_of_some _ hol
    have y1 := F.sub_tuple_set
    have y2 := F.sub_tuple_frozenset
    have y3 : (Value.type "tuple" == Value.type "dict") = false := by decide
    have hl1 : (s.heap.push (clean w)).IsTuple l us.toArray := ⟨_, hol1, rfl, nl, rfl⟩
    unfold Builtin.«set.__init__» noKeywords Builtin.Frozenset.updateFrom
    generalize hPI : pyIter = PI
    wp_walk
    subst hPI

    refine wpAny_pyIter_tuple hl1 (wpAny_bind (wpAny_runValue ?_))
    refine upd_loop ((Walks.tuple hh3 _ l nI us.toArray).toS) nS hn few hv (us.toArray.size - 0) 0 _ (by omega) (Nat.zero_le _) ⟨⟨_, Heap.get?_push_size _ rfl, rfl, rfl⟩, hl1.push _⟩ (setM_clean (Heap.get?_push_of_some _ aS)) fun s' mv M => ?_
    obtain ⟨h', g', d', tk', os'⟩ := s'
    obtain rfl : g' = s.gens := mv.gens
    obtain rfl : d' = s.drawn := mv.drawn
    obtain rfl : os' = s.os := mv.os
    show wpAny _ _ _ _ _ _
    refine wpAny_pure ?_
    show wpAny _ _ (ret Value.none) _ _ _
    refine wpAny_pure ⟨rfl, q h' tk' M fun b o e => ?_⟩
    have lt := Heap.lt_size e
    refine mv.heap b o ?_ (Heap.get?_push_of_some _ (Heap.get?_push_of_some _ e))
    simp only [List.mem_cons, List.not_mem_nil, or_false, not_or]
    exact ⟨Nat.ne_of_lt lt, by rw [Heap.size_push]; exact Nat.ne_of_lt (Nat.lt_succ_of_lt lt)⟩
end
end PSS

set_option Elab.async false
set_option linter.all false
set_option maxRecDepth 100000
set_option maxHeartbeats 8000000
/-! sets of keys as tracked things: set(xs), len, in, sorted -/
namespace PSG
open PySem PySem.Spec L2 PSS
open PyProof.Rows (IntsAre AllBare StrsAre)
def SetMO (P : Program) (w : World) (a : Addr) (L : List Key) : HO := .ext fun h => SetM P w h a L
theorem setMO_new {P : Program} {w : World} {H : Hp} {h : Heap} {a : Addr} {L : List Key} (M : SetM P w h a L) : ObjOk P w H h a (SetMO P w a L) := by
  have ⟨o, es, ep, t, J⟩ := M
  exact ⟨M, ⟨o, J.at_⟩, fun h1 h2 p k => p.to k⟩
section
variable {X : Cx}
theorem setMO_get {pins : List (Addr × Obj)} {σ : L2.St} {H : Hp} {s : Shared} {a : Addr} {L : List Key} (I : Inv X pins σ H s) (ha : H a = some (SetMO X.prog X.w a L)) : SetM X.prog X.w s.heap a L := (I.hok a _ ha).1
/-- set(xs) -/
def rSetOf (K : PySem.W.Frag) (P : Program) (w : World) : List V → Hp → VK → Prop := fun xs H Q => ∃ (l : Addr) (ks : List Key), xs = [.ref l] ∧ (SqL K H l (ks.map kV) ∨ SqT K H l (ks.map kV)) ∧ ks.length ≤ 1000 ∧
  ∀ a, H a = none → Q (.ref a) (upd H a (SetMO P w a (sof ks)))
theorem cr_setOf (hc : X.calm = true) : CallR X (.type "set") (rSetOf X.K X.prog X.w) := by
  intro pins s σ H xs us Q I r h
  obtain ⟨l, ks, rfl, hl, few, q⟩ := h
  rw [Vals.ref1 r]
  have hn : H s.heap.objs.size = none := I.hok.fresh (Nat.le_refl _)
  have fin : ∀ (its : List Value), Vals (ks.map kV) its → (s.heap.IsList l its.toArray ∨ s.heap.IsTuple l its.toArray) → wpAny (model X.prog X.w) X.A (call (.type "set") [.ref l]) (EP X pins σ Q) X.xe s := fun its rv hs =>
    call_set (P := X.prog) (w := X.w) (I.ok.hd hc) hs rv (by unfold scanBound; omega) fun g tk M k => ⟨.ref s.heap.objs.size, _, I.laid (t' := tk) k (Nat.le_refl _) (setMO_new M), rfl, q _ hn⟩
  rcases hl with hl | hl
  · obtain ⟨its, rv, pl, hz⟩ := I.list hl
    exact fin its rv (.inl pl.isList)
  · obtain ⟨its, rv, pl, hz⟩ := I.tuple hl
    exact fin its rv (.inr pl)
/-- len(a set) -/
def rLenM (P : Program) (w : World) : List V → Hp → VK → Prop := fun xs H Q => ∃ (a : Addr) (L : List Key), xs = [.ref a] ∧ H a = some (SetMO P w a L) ∧ Q (.int L.length) H
theorem cr_lenM : CallR X (.builtin "len") (rLenM X.prog X.w) := by
  intro pins s σ H xs us Q I r h
  obtain ⟨a, L, rfl, ha, q⟩ := h
  rw [Vals.ref1 r]
  obtain ⟨o, es, ep, t, J⟩ := setMO_get I ha
  have few : L.length < scanBound := J.sz
  refine call_len_set J.at_ J.ex J.da J.ft (by rw [J.len]; unfold scanBound at few; omega) ⟨.int L.length, H, I.tok _, ⟨_, by rw [J.len]⟩, q⟩
/-- k in a set -/
def rInM (P : Program) (w : World) (neg : Bool) : V → V → Hp → VK → Prop := fun x y H Q => ∃ (k : Key) (a : Addr) (L : List Key), x = kV k ∧ y = .ref a ∧ H a = some (SetMO P w a L) ∧ Q (.bl (if neg then !decide (k ∈ L) else decide (k ∈ L))) H
theorem op_inM : OpR X (compareOp .In) (rInM X.prog X.w false) := by
  intro pins s σ H x y v u Q I rx ry h
  obtain ⟨k, a, L, rfl, rfl, ha, q⟩ := h
  cases ry
  exact wpAny_inSet_of (kV_is rx) (key_scan rx) (setMO_get I ha).setOf ⟨.bl (decide (k ∈ L)), H, I.tok _, rfl, q⟩
theorem op_notInM : OpR X (compareOp .NotIn) (rInM X.prog X.w true) := by
  intro pins s σ H x y v u Q I rx ry h
  obtain ⟨k, a, L, rfl, rfl, ha, q⟩ := h
  cases ry
  exact wpAny_notInSet_of (kV_is rx) (key_scan rx) (setMO_get I ha).setOf ⟨.bl (!decide (k ∈ L)), H, I.tok _, rfl, q⟩
/-! sorted -/
theorem len_of_key {P : Program} {w : World} {h : Heap} {a : Addr} {L : List Key} {o : Obj} {es : Array (Int × Value)} {ep : Nat} {t : SetTable} {vs : List Value} (J : Is P w h a L o es ep t) (pm : vs.Perm (es.toList.map (·.2))) : vs.length = L.length := by
  rw [pm.length_eq, List.length_map, Array.length_toList, J.len]
theorem keys_perm {P : Program} {w : World} {h : Heap} {a : Addr} {L : List Key} {o : Obj} {es : Array (Int × Value)} {ep : Nat} {t : SetTable} {vs : List Value} (J : Is P w h a L o es ep t) (pm : vs.Perm (es.toList.map (·.2))) : (vs.map kOf).Perm L := by
  have z := pm.map kOf
  rw [List.map_map] at z
  exact z.trans J.pm
theorem keys_rel {P : Program} {w : World} {h : Heap} {a : Addr} {L : List Key} {o : Obj} {es : Array (Int × Value)} {ep : Nat} {t : SetTable} {vs : List Value} (J : Is P w h a L o es ep t) (pm : vs.Perm (es.toList.map (·.2))) : ∀ v ∈ vs, RelV (kV (kOf v)) v := by
  intro v hv
  obtain ⟨e, he, q⟩ := List.mem_map.mp (pm.mem_iff.mp hv)
  obtain ⟨k, r, _⟩ := J.en e he
  rw [← q, kOf_rel r]
  exact r
def isIK : Key → Prop := fun k => ∃ i, k = .inl i
def isSK : Key → Prop := fun k => ∃ x, k = .inr x
def gI : Value → Int := fun v => match kOf v with | .inl i => i | .inr _ => 0
def gS : Value → Str := fun v => match kOf v with | .inr x => x | .inl _ => Str.empty
theorem ints_of_keys : ∀ {vs : List Value}, (∀ v ∈ vs, RelV (kV (kOf v)) v ∧ isIK (kOf v)) → IntsAre vs (vs.map gI) ∧ vs.map kOf = (vs.map gI).map Sum.inl
  | [], _ => ⟨.nil, rfl⟩
  | v :: vs, h => by
    obtain ⟨h1, h2⟩ := ints_of_keys (vs := vs) fun u m => h u (List.mem_cons_of_mem _ m)
    obtain ⟨r, i, e⟩ := h v List.mem_cons_self
    rw [e] at r
    obtain ⟨t, rfl⟩ := r
    have g : gI (Value.int i t) = i := rfl
    refine ⟨?_, ?_⟩
    · rw [List.map_cons, g]
      exact .cons i t h1
    · rw [List.map_cons, List.map_cons, List.map_cons, h2, g]
      rfl
theorem strs_of_keys : ∀ {vs : List Value}, (∀ v ∈ vs, RelV (kV (kOf v)) v ∧ isSK (kOf v)) → StrsAre vs (vs.map gS) ∧ vs.map kOf = (vs.map gS).map Sum.inr
  | [], _ => ⟨.nil, rfl⟩
  | v :: vs, h => by
    obtain ⟨h1, h2⟩ := strs_of_keys (vs := vs) fun u m => h u (List.mem_cons_of_mem _ m)
    obtain ⟨r, x, e⟩ := h v List.mem_cons_self
    rw [e] at r
    obtain ⟨t, rfl⟩ := r
    have g : gS (Value.str x t) = x := rfl
    refine ⟨?_, ?_⟩
    · rw [List.map_cons, g]
      exact .cons x t h1
    · rw [List.map_cons, List.map_cons, List.map_cons, h2, g]
      rfl
theorem nodup_of_map {α β : Type} {f : α → β} {l : List α} (h : (l.map f).Nodup) : l.Nodup := List.Pairwise.of_map f (fun _ _ hne e => hne (congrArg f e)) h
theorem mem_map_inl {ns : List Int} {i : Int} : (Sum.inl i : Key) ∈ ns.map (Sum.inl : Int → Key) ↔ i ∈ ns := by
  rw [List.mem_map]
  exact ⟨fun ⟨j, m, e⟩ => by cases e; exact m, fun m => ⟨i, m, rfl⟩⟩
theorem mem_map_inr {ns : List Str} {i : Str} : (Sum.inr i : Key) ∈ ns.map (Sum.inr : Str → Key) ↔ i ∈ ns := by
  rw [List.mem_map]
  exact ⟨fun ⟨j, m, e⟩ => by cases e; exact m, fun m => ⟨i, m, rfl⟩⟩
/-- sorted(a set of whole numbers) -/
def rSortM (P : Program) (w : World) : List V → Hp → VK → Prop := fun vs H Q => ∃ (a : Addr) (L : List Key), vs = [.ref a] ∧ H a = some (SetMO P w a L) ∧ L.length < 64 ∧ (∀ k ∈ L, isIK k) ∧
  ∀ (ns : List Int) (p : Addr), ns.Pairwise (· < ·) → (∀ i : Int, i ∈ ns ↔ (Sum.inl i : Key) ∈ L) → ns.length = L.length → H p = none → Q (.ref p) (upd H p (.lst (ns.map V.int)))
theorem cr_sortM (hc : X.calm = true) : CallR X (.builtin "sorted") (rSortM X.prog X.w) := by
  intro pins s σ H xs us Q I r h
  obtain ⟨a, L, rfl, ha, few, ik, q⟩ := h
  rw [Vals.ref1 r]
  obtain ⟨o, es, ep, t, J⟩ := setMO_get I ha
  refine Calls.call_function_entry PyProof.Rows.kind_sorted PyProof.Rows.plain_sorted PyProof.Rows.entry_sorted (PyProof.Rows.args_sorted1 _) ?_
  unfold Builtin.«sorted»
  refine wpAny_bind (m := checkCount "sorted" 1 1 _) (wpAny_pure ?_)
  refine wpAny_bind (collect_set (A := X.A.in1) (I.ok.hd hc) ⟨o, J.at_, J.ex.1, J.da⟩ J.ft (by rw [J.len]; exact J.sz) J.ri J.le fun s1 vs k1 z1 g1 o1 pm => ?_)
  have vl := len_of_key J pm
  have kp := keys_perm J pm
  have kr := keys_rel J pm
  obtain ⟨ia, im⟩ := ints_of_keys fun v m => ⟨kr v m, ik _ (kp.mem_iff.mp (List.mem_map_of_mem m))⟩
  obtain ⟨g, b, d, tk, os⟩ := s1
  dsimp only at k1 z1 g1 o1 ⊢
  subst g1 o1
  have I1 : Inv X pins σ H { s with heap := g, drawn := d, toks := tk } := I.call (ch := []) (Un.kept k1) (I.hok.kept k1) I.bare (fun _ z => nomatch z)
  refine wpAny_bind (wpAny_newList ?_ (by rw [vl, sizeLine_eq]; omega))
  have aL : (g.push (PyProof.Rows.seqObj "list" vs.toArray 0)).get? g.objs.size = some (PyProof.Rows.seqObj "list" vs.toArray 0) := Heap.get?_push_size _ rfl
  refine wpAny_bind (wpAny_holding (wpAny_call_entry PyProof.Rows.slot_list_sort ⟨_, aL, rfl⟩ PyProof.Rows.entry_list_sort (PyProof.Rows.list_sort_tree aL ia (by rw [vl]; exact few) fun out ns a1 a2 a3 => ⟨_, rfl, ?_⟩) (PyProof.Rows.args_list_sort _)))
  obtain ⟨c, hcc⟩ := PyProof.Rows.sortedHeap_at (vs := vs) (out := out) aL
  have np : (ns.map (Sum.inl : Int → Key)).Perm L := (a2.map _).trans (im ▸ kp)
  have nl : ns.length = L.length := by
    have e := np.length_eq
    rw [List.length_map] at e
    exact e
  refine wpAny_pure ⟨_, rfl, .ref g.objs.size, upd H g.objs.size (.lst (ns.map V.int)), I1.laid (t' := tk) (fun b u e => ?_) (Nat.le_refl _)
    (show ObjOk X.prog X.w _ _ _ (.lst (ns.map V.int)) from ⟨by rw [List.length_map, nl, sizeLine_eq]; omega, out.toList, c, vals_of_ints a1, by rw [Array.toArray_toList]; exact hcc⟩), rfl,
    q ns _ (lt_of_le_nodup ns a3 (nodup_of_map (np.nodup_iff.mpr J.nd))) (fun i => by rw [← np.mem_iff, mem_map_inl]) nl (I1.hok.fresh (Nat.le_refl _))⟩
  have lt := Heap.lt_size e
  rw [PyProof.Rows.sortedHeap_old (Nat.ne_of_lt lt) (by rw [PyProof.Rows.size_push']; exact Nat.lt_succ_of_lt lt)]
  exact Heap.get?_push_of_some _ e
/-- sorted(a set of texts) -/
def rSortMS (P : Program) (w : World) : List V → Hp → VK → Prop := fun vs H Q => ∃ (a : Addr) (L : List Key), vs = [.ref a] ∧ H a = some (SetMO P w a L) ∧ L.length < 64 ∧ (∀ k ∈ L, isSK k) ∧
  ∀ (ys : List Str) (p : Addr), PyProof.Rows.sortedS ys = true → ys.Nodup → (∀ i : Str, i ∈ ys ↔ (Sum.inr i : Key) ∈ L) → ys.length = L.length → H p = none → Q (.ref p) (upd H p (.lst (ys.map V.str)))
theorem cr_sortMS (hc : X.calm = true) : CallR X (.builtin "sorted") (rSortMS X.prog X.w) := by
  intro pins s σ H xs us Q I r h
  obtain ⟨a, L, rfl, ha, few, ik, q⟩ := h
  rw [Vals.ref1 r]
  obtain ⟨o, es, ep, t, J⟩ := setMO_get I ha
  refine Calls.call_function_entry PyProof.Rows.kind_sorted PyProof.Rows.plain_sorted PyProof.Rows.entry_sorted (PyProof.Rows.args_sorted1 _) ?_
  unfold Builtin.«sorted»
  refine wpAny_bind (m := checkCount "sorted" 1 1 _) (wpAny_pure ?_)
  refine wpAny_bind (collect_set (A := X.A.in1) (I.ok.hd hc) ⟨o, J.at_, J.ex.1, J.da⟩ J.ft (by rw [J.len]; exact J.sz) J.ri J.le fun s1 vs k1 z1 g1 o1 pm => ?_)
  have vl := len_of_key J pm
  have kp := keys_perm J pm
  have kr := keys_rel J pm
  obtain ⟨ia, im⟩ := strs_of_keys fun v m => ⟨kr v m, ik _ (kp.mem_iff.mp (List.mem_map_of_mem m))⟩
  obtain ⟨g, b, d, tk, os⟩ := s1
  dsimp only at k1 z1 g1 o1 ⊢
  subst g1 o1
  have I1 : Inv X pins σ H { s with heap := g, drawn := d, toks := tk } := I.call (ch := []) (Un.kept k1) (I.hok.kept k1) I.bare (fun _ z => nomatch z)
  refine wpAny_bind (wpAny_newList ?_ (by rw [vl, sizeLine_eq]; omega))
  have aL : (g.push (PyProof.Rows.seqObj "list" vs.toArray 0)).get? g.objs.size = some (PyProof.Rows.seqObj "list" vs.toArray 0) := Heap.get?_push_size _ rfl
  refine wpAny_bind (wpAny_holding (wpAny_call_entry PyProof.Rows.slot_list_sort ⟨_, aL, rfl⟩ PyProof.Rows.entry_list_sort
    (PyProof.Rows.list_sort_treeK PyProof.Rows.strKind_oneLt (s := { s with heap := g.push (PyProof.Rows.seqObj "list" vs.toArray 0), drawn := d, toks := tk }) aL ia.keysOf (fun v₁ v₂ rest e => PyProof.Rows.keyKind_strs (by rw [← e]; exact ia)) (by rw [vl]; exact few) fun st hp hs => ⟨_, rfl, ?_⟩) (PyProof.Rows.args_list_sort _)))
  obtain ⟨ys, a1, a2, a3⟩ := PyProof.Rows.sorted_out_str ia hp hs
  obtain ⟨c, hcc⟩ := PyProof.Rows.sortedHeap_at (vs := vs) (out := (PyProof.Rows.arrOf st).map (·.2)) aL
  have np : (ys.map (Sum.inr : Str → Key)).Perm L := (a2.map _).trans (im ▸ kp)
  have nl : ys.length = L.length := by
    have e := np.length_eq
    rw [List.length_map] at e
    exact e
  refine wpAny_pure ⟨_, rfl, .ref g.objs.size, upd H g.objs.size (.lst (ys.map V.str)), I1.laid (t' := tk) (fun b u e => ?_) (Nat.le_refl _)
    (show ObjOk X.prog X.w _ _ _ (.lst (ys.map V.str)) from ⟨by rw [List.length_map, nl, sizeLine_eq]; omega, ((PyProof.Rows.arrOf st).map (·.2)).toList, c, vals_of_strs a1, by rw [Array.toArray_toList]; exact hcc⟩), rfl,
    q ys _ a3 (nodup_of_map (np.nodup_iff.mpr J.nd)) (fun i => by rw [← np.mem_iff, mem_map_inr]) nl (I1.hok.fresh (Nat.le_refl _))⟩
  have lt := Heap.lt_size e
  rw [PyProof.Rows.sortedHeap_old (Nat.ne_of_lt lt) (by rw [PyProof.Rows.size_push']; exact Nat.lt_succ_of_lt lt)]
  exact Heap.get?_push_of_some _ e
end
end PSG

set_option Elab.async false
set_option linter.all false
set_option maxRecDepth 100000
set_option maxHeartbeats 8000000
/-! {e for x in xs}, e a number or a text -/
namespace PSS
open PySem PySem.Spec PyProof.Rows L2
theorem set_add {P : Program} {w : World} {A : Around} {E : Value → Shared → Prop} {s : Shared} {a : Addr} {L : List Key} {k : Key} {x : Value} (rx : RelV (kV k) x) {Q : Value → Shared → Prop} (M : SetM P w s.heap a L) (room : L.length + 1 < scanBound)
    (q : ∀ g, Heap.SameBut a s.heap g → SetM P w g a (ins L k) → Q .none { s with heap := g, toks := s.toks + 1 }) : wpAny (model P w) A (call (.builtin "set.add") [.ref a, x]) Q E s := by
  refine wpAny_call_entry F.slot_set_add M.setOf.typeIs F.entry_set_add ?_ (F.args_set_add_2 _ _)
  unfold Builtin.«set.add» Builtin.Frozenset.oneOther
  simp only [List.isEmpty_nil, bind_assoc]
  unfold Builtin.Frozenset.addrOf setAdd
  refine wpAny_bind (wpAny_pure ?_)
  try dsimp only
  refine wpAny_bind (wpAny_pure ?_)
  try dsimp only
  refine wpAny_bind (wpAny_holding (wpAny_bind ((mixKind P w).pyHash (kV_is rx) ?_)))
  refine add_hashed (s := { s with toks := s.toks + 1 }) rx M room fun g b sb M2 => ?_
  show wpAny _ _ (ret Value.none) _ _ _
  exact wpAny_pure ⟨_, rfl, q g sb M2⟩
end PSS
namespace PSG
open PySem PySem.Spec L2 PSS
section
variable {X : Cx}
theorem add_in {pins : List (Addr × Obj)} {σ : L2.St} {H : Hp} {s : Shared} {E : Value → Shared → Prop} {D : Addr} {L : List Key} {k : Key} {x : Value} {Q : Value → Shared → Prop} (I : Inv X pins σ H s) (rx : RelV (kV k) x) (hD : H D = some (SetMO X.prog X.w D L)) (room : L.length + 1 < scanBound)
    (h : ∀ s', Inv X pins σ (upd H D (SetMO X.prog X.w D (ins L k))) s' → Q .none s') : wpAny (model X.prog X.w) X.A (call (.builtin "set.add") [.ref D, x]) Q E s := by
  refine set_add rx (setMO_get I hD) room fun g sb M => ?_
  have there : ∃ u, g.get? D = some u := by
    have ⟨o, es, ep, t, J⟩ := M
    exact ⟨o, J.at_⟩
  exact h _ (I.write (e := D) (t' := s.toks + 1) (by rw [hD]; trivial) (.inl rfl) (fun b u n e => (sb.2 b n).trans e) there (setMO_new M))
/-- what a turn of the comprehension makes: the key goes into the set at D -/
abbrev PutM (P : Program) (w : World) (D : Addr) (Nx : Hp → Prop) : VK := fun y H => ∃ (k : Key) (L : List Key), y = kV k ∧ H D = some (SetMO P w D L) ∧ L.length + 1 < scanBound ∧ Nx (upd H D (SetMO P w D (ins L k)))
def tScM (P : Program) (w : World) (wi : TI) (g : TG) (tt : TT) (te : TE) (vs : List Nat) : TE := fun σ H Q => wi σ H fun J H1 => ∀ D, H1 D = none → ∃ W : Nat → Nat → Hp → Prop, (∃ m, W 0 m (upd H1 D (SetMO P w D []))) ∧ ∀ i m H, W i m H →
  (J.stop i H ∧ Q (.ref D) H) ∨ (J.go i H ∧ ∃ Nx : Hp → Prop, (∀ H', Nx H' → ∃ m', m' < m ∧ W (i + 1) m' H') ∧ ∀ x H', J.yld i H x H' → g x (wipe σ vs) H' fun σ2 H2 => wipe σ2 vs = wipe σ vs ∧ tt σ2 H2 fun b H3 =>
    if b = true then te σ2 H3 (PutM P w D Nx) else Nx H3)
theorem scM_core {pins : List (Addr × Obj)} {s : Shared} {σ : L2.St} {H : Hp} {Q : VK} {elt tg iter : Expr} {ifs : List Expr} {scope : Scope} {own : List (PySem.Str × Nat)} {pos pos' : Pos} {wi : TI} {g : TG} {tt : TT} {te : TE} {use : Option (Value → Sem Unit)} {Qf : Value → Shared → Prop}
    (hc : X.calm = true) (hN : X.N.Nodup) (I : Inv X pins σ H s) (hi : PI X tg iter wi) (ok : BlkOk X.N X.env.scope scope own)
    (hg : ∀ (s : Shared) (H : Hp) (C : Addr) (cl : List (PySem.Str × Addr)) (fp : List Addr), PG (X.blk s H scope (compEnvC scope cl C X.env) fp) tg g) (ht : ∀ (s : Shared) (H : Hp) (C : Addr) (cl : List (PySem.Str × Addr)) (fp : List Addr), PTs (X.blk s H scope (compEnvC scope cl C X.env) fp) ifs tt)
    (he : ∀ (s : Shared) (H : Hp) (C : Addr) (cl : List (PySem.Str × Addr)) (fp : List Addr), PE (X.blk s H scope (compEnvC scope cl C X.env) fp) elt te) (hs : ∀ x, foldedSetIterable iter X.env x = pure x)
    (h : tScM X.prog X.w wi g tt te (own.map (·.2)) σ H Q)
    (back : ∀ D C s' m H', Inv X pins σ H' s' → Q (.ref D) H' → s'.heap.Ns C m → FpOk X pins H' C → compPost (model X.prog X.w) X.A X.xe use Qf (.ref D) C (.ok .next) s') :
    wpAny (model X.prog X.w) X.A (comprehension (.SetComp elt [⟨tg, iter, ifs, 0⟩] scope pos) scope X.env pos' (newSet (.type "set")) false (eval iter X.env) use) Qf X.xe s := by
  have cellsOk : ∀ y ∈ scope.names, y.2 = .free → ∃ c, X.env.cells.lookup y.1 = some c := fun y hy e => (ok.free y hy e).elim (fun k => I.ok.has _ (.inl k)) fun k => I.ok.has _ (.inr k)
  refine wpAny_comprehension_free (use := use) rfl hs (closure_ok cellsOk) ok.kind (fun y hy e => by rw [ok.uniq y hy, e]) (thn (hi.run pins s σ H _ I h) fun xv s1 hx => thn hx fun itv s2 h2 => ?_)
  obtain ⟨it, fp, tn, J, H2, e, I2, T, st2, f2, q⟩ := h2
  subst e
  refine PpSet.newSet_ok (newEnv_comp ?_)
  generalize hD : s2.heap.objs.size = D
  obtain ⟨W, ⟨m0, w0⟩, turn⟩ := q D (I2.hok.fresh (Nat.le_of_eq hD))
  generalize hs3 : ({ s2 with heap := s2.heap.push (clean X.w) } : Shared) = s3
  have h3 : s3.heap = s2.heap.push (clean X.w) := by rw [← hs3]
  have I3 : Inv X pins σ (upd H2 D (SetMO X.prog X.w D [])) s3 := by
    rw [← hs3]
    refine I2.laid (t' := s2.toks) (fun b o e => Heap.get?_push_of_some _ e) (Nat.le_of_eq hD) ?_
    rw [← hD]
    exact setMO_new (setM_clean (Heap.get?_push_size _ rfl))
  have f3 : ∀ b ∈ fp, FpOk X pins (upd H2 D (SetMO X.prog X.w D [])) b ∧ b < s3.heap.objs.size := fun b hb => by
    obtain ⟨o, e, _⟩ := T.obj _ _ st2 b hb
    have lt := Heap.lt_size e
    refine ⟨⟨?_, (f2 b hb).2⟩, by rw [h3, Heap.size_push]; exact Nat.lt_succ_of_lt lt⟩
    rw [upd_ne (by rw [← hD]; exact Nat.ne_of_lt lt)]
    exact (f2 b hb).1
  have st3 : tn 0 s3.heap := T.keep _ _ _ st2 fun b _ o e => by rw [h3]; exact Heap.get?_push_of_some _ e
  have I4 := block_start I3 ok hN f3
  have pg := hg s3 (upd H2 D (SetMO X.prog X.w D [])) s3.heap.objs.size (cellsFrom (s3.heap.objs.size + 1) scope.names (cloFrom X.env.cells scope.names [])) fp
  have pt := ht s3 (upd H2 D (SetMO X.prog X.w D [])) s3.heap.objs.size (cellsFrom (s3.heap.objs.size + 1) scope.names (cloFrom X.env.cells scope.names [])) fp
  have pe := he s3 (upd H2 D (SetMO X.prog X.w D [])) s3.heap.objs.size (cellsFrom (s3.heap.objs.size + 1) scope.names (cloFrom X.env.cells scope.names [])) fp
  show codeAny _ _ (.compStart (.SetComp elt [⟨tg, iter, ifs, 0⟩] scope pos) 0 (.ref it) (.ref D) (compEnvC scope (cellsFrom (s3.heap.objs.size + 1) scope.names (cloFrom X.env.cells scope.names [])) s3.heap.objs.size X.env)) (compPost (model X.prog X.w) X.A X.xe use Qf (.ref D) s3.heap.objs.size) { s3 with heap := pushCells (s3.heap.push { cls := .type "dict", data := .dict #[] }) scope.names }
  have none3 : ∀ b ∈ fp, (upd H2 D (SetMO X.prog X.w D [])) b = none := fun b hb => (f3 b hb).1.1
  generalize hce : compEnvC scope (cellsFrom (s3.heap.objs.size + 1) scope.names (cloFrom X.env.cells scope.names [])) s3.heap.objs.size X.env = ce at I4 pg pt pe ⊢
  have cL : ce.locals = s3.heap.objs.size := by subst hce; rfl
  generalize hH3 : upd H2 D (SetMO X.prog X.w D []) = H3 at I3 I4 pg pt pe w0 none3 f3
  generalize hs4 : ({ s3 with heap := pushCells (s3.heap.push { cls := .type "dict", data := .dict #[] }) scope.names } : Shared) = s4 at I4 ⊢
  have st4 : tn 0 s4.heap := T.keep _ _ _ st3 fun b _ o e => by rw [← hs4]; exact pushCells_keeps _ _ _ _ (Heap.get?_push_of_some _ e)
  have foot : ∀ {σ' : L2.St} {H' : Hp} {s' : Shared}, Inv (X.blk s3 H3 scope ce fp) [] σ' H' s' → (∀ b ∈ fp, H' b = none) → ∀ b ∈ fp, FpOk (X.blk s3 H3 scope ce fp) [] H' b := fun {σ' H' s'} I' hn b hb =>
    ⟨hn b hb, (I'.ok.exf b hb).1, I'.ok.exfs b hb, .inl hb, fun x c e => (I'.ok.exf b hb).2 x c e, fun p hp => absurd (show p ∈ ([] : List (Addr × Obj)) ++ [] from hp) (by simp)⟩
  have loop : codeAny (model X.prog X.w) X.A (.compLoop (.SetComp elt [⟨tg, iter, ifs, 0⟩] scope pos) 0 (.ref it) (.ref D) ce) (compPost (model X.prog X.w) X.A X.xe use Qf (.ref D) s3.heap.objs.size) s4 := by
    refine PpSet.compLoopS_any (fun n s' => ∃ i H', Inv (X.blk s3 H3 scope ce fp) [] (wipe σ (own.map (·.2))) H' s' ∧ tn i s'.heap ∧ (∀ b ∈ fp, H' b = none) ∧ W i n H') ?_ m0 ⟨0, H3, I4, st4, none3, w0⟩
    rintro n s5 ⟨i, H5, I5, st5, n5, w5⟩
    rcases turn i n H5 w5 with ⟨stop, qq⟩ | ⟨go, Nx, hNx, step⟩
    · refine thnF (T.done (X.blk s3 H3 scope ce fp) rfl rfl rfl hc i [] s5 _ H5 (fun _ _ => False) I5 (foot I5 n5) st5 stop) fun r s6 ⟨hr, I6⟩ => ?_
      subst hr
      have I7 : Inv X pins σ H5 s6 := I3.call' (ch := fp) I6.os I6.base I6.hok I6.bare fun b hb => ⟨(f3 b hb).1.2.2.2.1, (f3 b hb).1.2.1, (f3 b hb).1.2.2.2.2.1, (f3 b hb).1.2.2.2.2.2⟩
      have nC : H5 s3.heap.objs.size = none := cL ▸ (show H5 ce.locals = none from I6.free)
      obtain ⟨m, hn, _⟩ := I6.loc
      exact back D s3.heap.objs.size s6 m H5 I7 qq (cL ▸ (show s6.heap.Ns ce.locals m from hn)) (I3.fpOk (Nat.le_refl _) nC)
    · refine thnF (T.item (X.blk s3 H3 scope ce fp) rfl rfl rfl hc i [] s5 _ H5 (fun _ _ => False) I5 (foot I5 n5) st5 go) fun r s6 ⟨u, hr, h6⟩ => ?_
      subst hr
      refine thnF h6 fun _ s7 ⟨x, H7, I7, r7, y7, st7, n7⟩ => ?_
      have I8 := I7.pinned (foot I7 n7) (T.obj _ _ st7)
      refine thnF (pg.run _ s7 _ H7 x u _ I8 r7 (step x H7 y7)) fun _ s8 ⟨σ8, H8, I8, hw8, q8⟩ => ?_
      refine thnF (pt.run _ s8 σ8 H8 _ I8 q8) fun b s9 ⟨H9, I9, q9⟩ => ?_
      have turnEnd : ∀ {s' : Shared} {H' : Hp}, Inv (X.blk s3 H3 scope ce fp) ([] ++ pinsAt fp s7.heap) σ8 H' s' → Nx H' → ∃ m, m < n ∧ ∃ i H', Inv (X.blk s3 H3 scope ce fp) [] (wipe σ (own.map (·.2))) H' s' ∧ tn i s'.heap ∧ (∀ b ∈ fp, H' b = none) ∧ W i m H' := fun {s' H'} I' nx => by
        obtain ⟨m', hm, w'⟩ := hNx H' nx
        have pin : ∀ b ∈ fp, ∀ o, s7.heap.get? b = some o → s'.heap.get? b = some o ∧ H' b = none := fun b hb o e => by
          have z := I'.pin (b, o) (List.mem_append_right _ (List.mem_append_right _ (mem_pinsAt hb e)))
          exact ⟨z.1, z.2.1⟩
        refine ⟨m', hm, i + 1, H', (I'.unpinned (pins := [])).weak (by rw [← hw8, wipe_length]) (fun j v e => ?_), T.keep _ _ _ st7 fun b hb o e => (pin b hb o e).1, fun b hb => ?_, w'⟩
        · rw [← hw8] at e
          exact (wipe_some e).1
        · obtain ⟨o, e, _⟩ := T.obj _ _ st7 b hb
          exact (pin b hb o e).2
      cases b with
      | false =>
        simp only [Bool.false_eq_true, if_false] at q9 ⊢
        exact turnEnd I9 q9
      | true =>
        simp only [if_true] at q9 ⊢
        refine thnF (pe.run _ s9 σ8 H9 _ I9 q9) fun z s10 ⟨yv, H10, I10, r10, k, L, ey, hD10, room, nx⟩ => ?_
        subst ey
        exact add_in (X := X.blk s3 H3 scope ce fp) I10 r10 hD10 room fun s11 I11 => turnEnd I11 nx
  exact PpSet.codeAny_compStart_set loop (T.self X.A 0 _ _ _ st4 loop)
theorem pe_scM {elt tg iter : Expr} {ifs : List Expr} {scope : Scope} {own : List (PySem.Str × Nat)} {pos : Pos} {wi : TI} {g : TG} {tt : TT} {te : TE} (hc : X.calm = true) (hN : X.N.Nodup) (hi : PI X tg iter wi) (ok : BlkOk X.N X.env.scope scope own)
    (hg : ∀ (s : Shared) (H : Hp) (C : Addr) (cl : List (PySem.Str × Addr)) (fp : List Addr), PG (X.blk s H scope (compEnvC scope cl C X.env) fp) tg g) (ht : ∀ (s : Shared) (H : Hp) (C : Addr) (cl : List (PySem.Str × Addr)) (fp : List Addr), PTs (X.blk s H scope (compEnvC scope cl C X.env) fp) ifs tt)
    (he : ∀ (s : Shared) (H : Hp) (C : Addr) (cl : List (PySem.Str × Addr)) (fp : List Addr), PE (X.blk s H scope (compEnvC scope cl C X.env) fp) elt te) (hs : ∀ x, foldedSetIterable iter X.env x = pure x := by intro _; rfl) :
    PE X (.SetComp elt [⟨tg, iter, ifs, 0⟩] scope pos) (tScM X.prog X.w wi g tt te (own.map (·.2))) := by
  refine ⟨fun pins s σ H Q I h => ?_⟩
  rw [PpSet.eval_SetComp]
  refine scM_core hc hN I hi ok hg ht he hs h fun D C s' m H' I' q hn f => ⟨m, hn, fun h2 sb => ?_⟩
  obtain ⟨f0, f1, f2, f3, f4, f5⟩ := f
  exact ⟨.ref D, H', I'.turned (t' := s'.toks) (fun b o hb e => (sb.2 b hb).trans e) f0 f1 f3 f4 f5, rfl, q⟩
end
/-- over a list that stands still -/
theorem scM_list {P : Program} {w : World} {K : PySem.W.Frag} {a : Addr} {xs : List V} {g : TG} {tt : TT} {te : TE} {vs : List Nat} {σ : L2.St} {H1 : Hp} {D : Addr} {Qd : Hp → Prop} (Pv : Nat → Hp → Prop) (h0 : Pv 0 (upd H1 D (SetMO P w D []))) (hl : ∀ i H, i ≤ xs.length → Pv i H → SqL K H a xs)
    (hs : ∀ i x H, xs[i]? = some x → Pv i H → g x (wipe σ vs) H fun σ2 H2 => wipe σ2 vs = wipe σ vs ∧ tt σ2 H2 fun b H3 => if b = true then te σ2 H3 (PutM P w D (Pv (i + 1))) else Pv (i + 1) H3) (hd : ∀ H, Pv xs.length H → Qd H) :
    ∃ W : Nat → Nat → Hp → Prop, (∃ m, W 0 m (upd H1 D (SetMO P w D []))) ∧ ∀ i m H, W i m H →
      ((Itl K a).stop i H ∧ Qd H) ∨ ((Itl K a).go i H ∧ ∃ Nx : Hp → Prop, (∀ H', Nx H' → ∃ m', m' < m ∧ W (i + 1) m' H') ∧ ∀ x H', (Itl K a).yld i H x H' → g x (wipe σ vs) H' fun σ2 H2 => wipe σ2 vs = wipe σ vs ∧ tt σ2 H2 fun b H3 =>
        if b = true then te σ2 H3 (PutM P w D Nx) else Nx H3) := by
  refine ⟨fun i m H => m = xs.length - i ∧ i ≤ xs.length ∧ Pv i H, ⟨_, rfl, Nat.zero_le _, h0⟩, ?_⟩
  rintro i m H ⟨rfl, le, p⟩
  have q := hl i H le p
  by_cases lt : i < xs.length
  · refine .inr ⟨⟨xs, xs[i], q, by simp [lt]⟩, Pv (i + 1), fun H' p' => ⟨xs.length - (i + 1), by omega, rfl, lt, p'⟩, fun x H' y => ?_⟩
    obtain ⟨rfl, y⟩ := y
    exact hs i x _ (y xs q) p
  · obtain rfl : i = xs.length := by omega
    exact .inl ⟨⟨xs, q, Nat.le_refl _⟩, hd H p⟩
theorem scM_tup {P : Program} {w : World} {K : PySem.W.Frag} {a : Addr} {xs : List V} {g : TG} {tt : TT} {te : TE} {vs : List Nat} {σ : L2.St} {H1 : Hp} {D : Addr} {Qd : Hp → Prop} (Pv : Nat → Hp → Prop) (h0 : Pv 0 (upd H1 D (SetMO P w D []))) (hl : ∀ i H, i ≤ xs.length → Pv i H → SqT K H a xs)
    (hs : ∀ i x H, xs[i]? = some x → Pv i H → g x (wipe σ vs) H fun σ2 H2 => wipe σ2 vs = wipe σ vs ∧ tt σ2 H2 fun b H3 => if b = true then te σ2 H3 (PutM P w D (Pv (i + 1))) else Pv (i + 1) H3) (hd : ∀ H, Pv xs.length H → Qd H) :
    ∃ W : Nat → Nat → Hp → Prop, (∃ m, W 0 m (upd H1 D (SetMO P w D []))) ∧ ∀ i m H, W i m H →
      ((Itt K a).stop i H ∧ Qd H) ∨ ((Itt K a).go i H ∧ ∃ Nx : Hp → Prop, (∀ H', Nx H' → ∃ m', m' < m ∧ W (i + 1) m' H') ∧ ∀ x H', (Itt K a).yld i H x H' → g x (wipe σ vs) H' fun σ2 H2 => wipe σ2 vs = wipe σ vs ∧ tt σ2 H2 fun b H3 =>
        if b = true then te σ2 H3 (PutM P w D Nx) else Nx H3) := by
  refine ⟨fun i m H => m = xs.length - i ∧ i ≤ xs.length ∧ Pv i H, ⟨_, rfl, Nat.zero_le _, h0⟩, ?_⟩
  rintro i m H ⟨rfl, le, p⟩
  have q := hl i H le p
  by_cases lt : i < xs.length
  · refine .inr ⟨⟨xs, xs[i], q, by simp [lt]⟩, Pv (i + 1), fun H' p' => ⟨xs.length - (i + 1), by omega, rfl, lt, p'⟩, fun x H' y => ?_⟩
    obtain ⟨rfl, y⟩ := y
    exact hs i x _ (y xs q) p
  · obtain rfl : i = xs.length := by omega
    exact .inl ⟨⟨xs, q, Nat.le_refl _⟩, hd H p⟩
end PSG

set_option Elab.async false
set_option linter.all false
set_option maxRecDepth 100000
set_option maxHeartbeats 8000000
/-! either of two roads; any comprehension over what is walked; sorted sets of one kind -/
namespace PSG
open PySem PySem.Spec L2 PSS
theorem pi_or {X : Cx} {tg iter : Expr} {w1 w2 : TI} (h1 : PI X tg iter w1) (h2 : PI X tg iter w2) : PI X tg iter fun σ H R => w1 σ H R ∨ w2 σ H R :=
  ⟨fun pins s σ H R I h => h.elim (fun z => h1.run pins s σ H R I z) fun z => h2.run pins s σ H R I z⟩
theorem cr_or {X : Cx} {f : Value} {r r' : List V → Hp → VK → Prop} (h : CallR X f r) (h' : CallR X f r') : CallR X f fun xs H Q => r xs H Q ∨ r' xs H Q :=
  fun pins s σ H xs us Q I rx z => z.elim (fun z => h pins s σ H xs us Q I rx z) fun z => h' pins s σ H xs us Q I rx z
theorem pe_or2 {X : Cx} {e : Expr} {t t' : TE} (h : PE X e t) (h' : PE X e t') : PE X e fun σ H Q => t σ H Q ∨ t' σ H Q :=
  ⟨fun pins s σ H Q I z => z.elim (fun z => h.run pins s σ H Q I z) fun z => h'.run pins s σ H Q I z⟩
/-- what a comprehension's reading asks, by an invariant over the turns -/
theorem w_run {J : It} {B : (Hp → Prop) → V → Hp → Prop} {Qd : Hp → Prop} {H0 : Hp} (n : Nat) (Pv : Nat → Hp → Prop) (h0 : Pv 0 H0)
    (hs : ∀ i H, i ≤ n → Pv i H → (i = n ∧ J.stop i H) ∨ (i < n ∧ J.go i H ∧ ∀ x H', J.yld i H x H' → B (Pv (i + 1)) x H')) (hd : ∀ H, Pv n H → Qd H) :
    ∃ W : Nat → Nat → Hp → Prop, (∃ m, W 0 m H0) ∧ ∀ i m H, W i m H → (J.stop i H ∧ Qd H) ∨ (J.go i H ∧ ∃ Nx : Hp → Prop, (∀ H', Nx H' → ∃ m', m' < m ∧ W (i + 1) m' H') ∧ ∀ x H', J.yld i H x H' → B Nx x H') := by
  refine ⟨fun i m H => m = n - i ∧ i ≤ n ∧ Pv i H, ⟨_, rfl, Nat.zero_le _, h0⟩, ?_⟩
  rintro i m H ⟨rfl, le, p⟩
  rcases hs i H le p with ⟨rfl, st⟩ | ⟨lt, go, y⟩
  · exact .inl ⟨st, hd H p⟩
  · exact .inr ⟨go, Pv (i + 1), fun H' p' => ⟨n - (i + 1), by omega, rfl, lt, p'⟩, y⟩
theorem w_list {K : PySem.W.Frag} {a : Addr} {xs : List V} {B : (Hp → Prop) → V → Hp → Prop} {Qd : Hp → Prop} {H0 : Hp} (Pv : Nat → Hp → Prop) (h0 : Pv 0 H0) (hl : ∀ i H, i ≤ xs.length → Pv i H → SqL K H a xs)
    (hs : ∀ i x H, xs[i]? = some x → Pv i H → B (Pv (i + 1)) x H) (hd : ∀ H, Pv xs.length H → Qd H) :
    ∃ W : Nat → Nat → Hp → Prop, (∃ m, W 0 m H0) ∧ ∀ i m H, W i m H → ((Itl K a).stop i H ∧ Qd H) ∨ ((Itl K a).go i H ∧ ∃ Nx : Hp → Prop, (∀ H', Nx H' → ∃ m', m' < m ∧ W (i + 1) m' H') ∧ ∀ x H', (Itl K a).yld i H x H' → B Nx x H') := by
  refine w_run xs.length Pv h0 (fun i H le p => ?_) hd
  have q := hl i H le p
  by_cases lt : i < xs.length
  · refine .inr ⟨lt, ⟨xs, xs[i], q, by simp [lt]⟩, fun x H' y => ?_⟩
    obtain ⟨rfl, y⟩ := y
    exact hs i x _ (y xs q) p
  · exact .inl ⟨by omega, ⟨xs, q, by omega⟩⟩
theorem w_tup {K : PySem.W.Frag} {a : Addr} {xs : List V} {B : (Hp → Prop) → V → Hp → Prop} {Qd : Hp → Prop} {H0 : Hp} (Pv : Nat → Hp → Prop) (h0 : Pv 0 H0) (hl : ∀ i H, i ≤ xs.length → Pv i H → SqT K H a xs)
    (hs : ∀ i x H, xs[i]? = some x → Pv i H → B (Pv (i + 1)) x H) (hd : ∀ H, Pv xs.length H → Qd H) :
    ∃ W : Nat → Nat → Hp → Prop, (∃ m, W 0 m H0) ∧ ∀ i m H, W i m H → ((Itt K a).stop i H ∧ Qd H) ∨ ((Itt K a).go i H ∧ ∃ Nx : Hp → Prop, (∀ H', Nx H' → ∃ m', m' < m ∧ W (i + 1) m' H') ∧ ∀ x H', (Itt K a).yld i H x H' → B Nx x H') := by
  refine w_run xs.length Pv h0 (fun i H le p => ?_) hd
  have q := hl i H le p
  by_cases lt : i < xs.length
  · refine .inr ⟨lt, ⟨xs, xs[i], q, by simp [lt]⟩, fun x H' y => ?_⟩
    obtain ⟨rfl, y⟩ := y
    exact hs i x _ (y xs q) p
  · exact .inl ⟨by omega, ⟨xs, q, by omega⟩⟩
/-- enumerate(list): each turn brings a new tuple -/
theorem w_enum {K : PySem.W.Frag} {a : Addr} {xs : List V} {B : (Hp → Prop) → V → Hp → Prop} {Qd : Hp → Prop} {H0 : Hp} (Pv : Nat → Hp → Prop) (h0 : Pv 0 H0) (hl : ∀ i H, i ≤ xs.length → Pv i H → SqL K H a xs)
    (hs : ∀ i x H T, xs[i]? = some x → Pv i H → H T = none → B (Pv (i + 1)) (.ref T) (upd H T (.tup [.int (i : Nat), x]))) (hd : ∀ H, Pv xs.length H → Qd H) :
    ∃ W : Nat → Nat → Hp → Prop, (∃ m, W 0 m H0) ∧ ∀ i m H, W i m H → ((Ite K a).stop i H ∧ Qd H) ∨ ((Ite K a).go i H ∧ ∃ Nx : Hp → Prop, (∀ H', Nx H' → ∃ m', m' < m ∧ W (i + 1) m' H') ∧ ∀ x H', (Ite K a).yld i H x H' → B Nx x H') := by
  refine w_run xs.length Pv h0 (fun i H le p => ?_) hd
  have q := hl i H le p
  by_cases lt : i < xs.length
  · refine .inr ⟨lt, ⟨xs, xs[i], q, by simp [lt]⟩, fun x H' y => ?_⟩
    obtain ⟨T, v, rfl, hT, rfl, y⟩ := y
    exact hs i v H T (y xs q) p hT
  · exact .inl ⟨by omega, ⟨xs, q, by omega⟩⟩
theorem w_range {lo : Int} {n : Nat} {B : (Hp → Prop) → V → Hp → Prop} {Qd : Hp → Prop} {H0 : Hp} (Pv : Nat → Hp → Prop) (h0 : Pv 0 H0)
    (hs : ∀ i H, i < n → Pv i H → B (Pv (i + 1)) (.int (lo + i)) H) (hd : ∀ H, Pv n H → Qd H) :
    ∃ W : Nat → Nat → Hp → Prop, (∃ m, W 0 m H0) ∧ ∀ i m H, W i m H → ((Itr lo n).stop i H ∧ Qd H) ∨ ((Itr lo n).go i H ∧ ∃ Nx : Hp → Prop, (∀ H', Nx H' → ∃ m', m' < m ∧ W (i + 1) m' H') ∧ ∀ x H', (Itr lo n).yld i H x H' → B Nx x H') := by
  refine w_run n Pv h0 (fun i H le p => ?_) hd
  by_cases lt : i < n
  · refine .inr ⟨lt, lt, fun x H' y => ?_⟩
    obtain ⟨rfl, rfl⟩ := y
    exact hs i _ lt p
  · exact .inl ⟨by omega, Nat.le_of_not_lt lt⟩
/-! a list or a tuple that stands still, walked -/
theorem same_tup {K : PySem.W.Frag} {H G : Hp} {a : Addr} {xs : List V} (s : Same H G) (h : SqT K H a xs) : SqT K G a xs := by
  rcases h with (h | ⟨o, h⟩) | h
  · exact .inl (.inl (s _ _ h))
  · exact .inl (.inr ⟨o, s _ _ h⟩)
  · exact .inr h
structure Wk (J : It) (H : Hp) (xs : List V) : Prop where
  go : ∀ G, Same H G → ∀ i, i < xs.length → J.go i G
  yl : ∀ G, Same H G → ∀ i x G', J.yld i G x G' → G' = G ∧ xs[i]? = some x
  st : ∀ G, Same H G → J.stop xs.length G
theorem wk_list {K : PySem.W.Frag} {H : Hp} {a : Addr} {xs : List V} (h : SqL K H a xs) : Wk (Itl K a) H xs where
  go := fun G s i lt => ⟨xs, xs[i], s.seq h, by simp [lt]⟩
  yl := fun G s i x G' y => ⟨y.1, y.2 xs (s.seq h)⟩
  st := fun G s => ⟨xs, s.seq h, Nat.le_refl _⟩
theorem wk_tup {K : PySem.W.Frag} {H : Hp} {a : Addr} {xs : List V} (h : SqT K H a xs) : Wk (Itt K a) H xs where
  go := fun G s i lt => ⟨xs, xs[i], same_tup s h, by simp [lt]⟩
  yl := fun G s i x G' y => ⟨y.1, y.2 xs (same_tup s h)⟩
  st := fun G s => ⟨xs, same_tup s h, Nat.le_refl _⟩
theorem seq_or {K : PySem.W.Frag} {i0 : Nat} {σ : L2.St} {H : Hp} {a : Addr} {xs : List V} {R : It → Hp → Prop} (hσ : σ[i0]? = some (some (.ref a))) (hq : SqL K H a xs ∨ SqT K H a xs) (hR : ∀ J : It, Wk J H xs → R J H) :
    iList K (tVar i0) σ H R ∨ iTup K (tVar i0) σ H R :=
  hq.elim (fun z => .inl ⟨_, hσ, a, rfl, ⟨xs, z⟩, hR _ (wk_list z)⟩) fun z => .inr ⟨_, hσ, a, rfl, ⟨xs, z⟩, hR _ (wk_tup z)⟩
theorem w_wk {J : It} {H : Hp} {xs : List V} {B : (Hp → Prop) → V → Hp → Prop} {Qd : Hp → Prop} {H0 : Hp} (wk : Wk J H xs) (Pv : Nat → Hp → Prop) (h0 : Pv 0 H0) (hl : ∀ i G, i ≤ xs.length → Pv i G → Same H G)
    (hs : ∀ i x G, xs[i]? = some x → Pv i G → B (Pv (i + 1)) x G) (hd : ∀ G, Pv xs.length G → Qd G) :
    ∃ W : Nat → Nat → Hp → Prop, (∃ m, W 0 m H0) ∧ ∀ i m H, W i m H → (J.stop i H ∧ Qd H) ∨ (J.go i H ∧ ∃ Nx : Hp → Prop, (∀ H', Nx H' → ∃ m', m' < m ∧ W (i + 1) m' H') ∧ ∀ x H', J.yld i H x H' → B Nx x H') := by
  refine w_run xs.length Pv h0 (fun i G le p => ?_) hd
  have k := hl i G le p
  by_cases lt : i < xs.length
  · refine .inr ⟨lt, wk.go G k i lt, fun x H' y => ?_⟩
    obtain ⟨rfl, e⟩ := wk.yl G k i x H' y
    exact hs i x _ e p
  · obtain rfl : i = xs.length := by omega
    exact .inl ⟨rfl, wk.st G k⟩
theorem for_wk {J : It} {H : Hp} {xs : List V} {g : TG} {tb : TS} {D : Ends} {σ : L2.St} {H1 : Hp} (wk : Wk J H xs) (Pv : Nat → L2.St → Hp → Prop) (h0 : Pv 0 σ H1) (hl : ∀ i σ G, i ≤ xs.length → Pv i σ G → Same H G)
    (hs : ∀ i x σ G, xs[i]? = some x → Pv i σ G → g x σ G fun σ2 H2 => tb { D with nx := Pv (i + 1), ct := Pv (i + 1), bk := D.nx } σ2 H2) (hd : ∀ σ G, Pv xs.length σ G → D.nx σ G) :
    ∃ W : Nat → Nat → L2.St → Hp → Prop, (∃ m, W 0 m σ H1) ∧ ∀ i m σ H, W i m σ H →
      (J.stop i H ∧ D.nx σ H) ∨ (J.go i H ∧ ∃ N : L2.St → Hp → Prop, (∀ σ' H', N σ' H' → ∃ m', m' < m ∧ W (i + 1) m' σ' H') ∧ ∀ x H', J.yld i H x H' → g x σ H' fun σ2 H2 => tb { D with nx := N, ct := N, bk := D.nx } σ2 H2) := by
  refine ⟨fun i m σ G => m = xs.length - i ∧ i ≤ xs.length ∧ Pv i σ G, ⟨_, rfl, Nat.zero_le _, h0⟩, ?_⟩
  rintro i m σ G ⟨rfl, le, p⟩
  have k := hl i σ G le p
  by_cases lt : i < xs.length
  · refine .inr ⟨wk.go G k i lt, Pv (i + 1), fun σ' H' p' => ⟨xs.length - (i + 1), by omega, rfl, lt, p'⟩, fun x H' y => ?_⟩
    obtain ⟨rfl, e⟩ := wk.yl G k i x H' y
    exact hs i x σ _ e p
  · obtain rfl : i = xs.length := by omega
    exact .inl ⟨wk.st G k, hd σ G p⟩
/-! the order of keys of one kind -/
def ltK : Key → Key → Bool
  | .inl i, .inl j => decide (i < j)
  | .inr x, .inr y => decide (x.cps.toList < y.cps.toList)
  | _, _ => false
theorem ltK_irrefl (k : Key) : ltK k k = false := by
  cases k with
  | inl i => simp [ltK]
  | inr x => simp [ltK, List.lt_irrefl]
theorem ltK_asymm {a b : Key} (h : ltK a b = true) : ltK b a = false := by
  cases a <;> cases b <;> simp only [ltK, decide_eq_true_eq, decide_eq_false_iff_not, Bool.false_eq_true] at h ⊢
  · omega
  · exact List.lt_asymm h
/-- all of one kind -/
def OneK (L : List Key) : Prop := (∀ k ∈ L, isIK k) ∨ (∀ k ∈ L, isSK k)
theorem rising_lt : ∀ {p : Str} {ys : List Str}, PyProof.Rows.risingS p ys = true → (p :: ys).Nodup → ∀ y ∈ ys, p.cps.toList < y.cps.toList
  | _, [], _, _ => fun y hy => by cases hy
  | p, x :: r, h, nd => by
    simp only [PyProof.Rows.risingS, Bool.and_eq_true, Bool.not_eq_true'] at h
    obtain ⟨h1, h2⟩ := h
    obtain ⟨n1, n2⟩ := List.nodup_cons.mp nd
    have hx : p.cps.toList < x.cps.toList := by
      have le : ¬ x.cps.toList < p.cps.toList := by
        intro z
        rw [PyProof.Rows.ltCps_eq, decide_eq_true z] at h1
        cases h1
      refine Classical.byContradiction fun z => n1 ?_
      have e : p.cps.toList = x.cps.toList := List.le_antisymm (List.not_lt.mp le) (List.not_lt.mp z)
      have e2 : p = x := by
        obtain ⟨⟨a⟩⟩ := p
        obtain ⟨⟨b⟩⟩ := x
        cases e
        rfl
      rw [e2]
      exact List.mem_cons_self
    intro y hy
    rcases List.mem_cons.mp hy with rfl | hy
    · exact hx
    · exact List.lt_trans hx (rising_lt h2 n2 y hy)
theorem rising_pw : ∀ {p : Str} {ys : List Str}, PyProof.Rows.risingS p ys = true → (p :: ys).Nodup → (p :: ys).Pairwise fun a b => a.cps.toList < b.cps.toList
  | p, [], _, _ => by simp
  | p, x :: r, h, nd => by
    have h2 := h
    simp only [PyProof.Rows.risingS, Bool.and_eq_true] at h2
    exact List.pairwise_cons.mpr ⟨rising_lt h nd, rising_pw h2.2 (List.nodup_cons.mp nd).2⟩
theorem sortedS_pw {ys : List Str} (h : PyProof.Rows.sortedS ys = true) (nd : ys.Nodup) : ys.Pairwise fun a b => a.cps.toList < b.cps.toList := by
  cases ys with
  | nil => exact List.Pairwise.nil
  | cons p r => exact rising_pw h nd
/-- sorted(a set of one kind) -/
def rSortK (P : Program) (w : World) : List V → Hp → VK → Prop := fun vs H Q => ∃ (a : Addr) (L : List Key), vs = [.ref a] ∧ H a = some (SetMO P w a L) ∧ L.length < 64 ∧ OneK L ∧
  ∀ (zs : List Key) (p : Addr), zs.Pairwise (fun a b => ltK a b = true) → (∀ k, k ∈ zs ↔ k ∈ L) → zs.length = L.length → H p = none → Q (.ref p) (upd H p (.lst (zs.map kV)))
theorem cr_sortK {X : Cx} (hc : X.calm = true) : CallR X (.builtin "sorted") (rSortK X.prog X.w) := by
  intro pins s σ H xs us Q I r h
  obtain ⟨a, L, rfl, ha, few, one, q⟩ := h
  rcases one with one | one
  · refine cr_sortM hc pins s σ H _ us Q I r ⟨a, L, rfl, ha, few, one, fun ns p pw mem len hp => ?_⟩
    have z := q (ns.map Sum.inl) p (List.pairwise_map.mpr (pw.imp fun {a b} l => decide_eq_true l)) (fun k => ?_) (by rw [List.length_map, len]) hp
    · rw [List.map_map] at z
      exact z
    · cases k with
      | inl i => rw [mem_map_inl, mem]
      | inr x => exact ⟨fun m => by simp at m, fun m => by obtain ⟨i, e⟩ := one _ m; cases e⟩
  · refine cr_sortMS hc pins s σ H _ us Q I r ⟨a, L, rfl, ha, few, one, fun ns p st nd mem len hp => ?_⟩
    have z := q (ns.map Sum.inr) p (List.pairwise_map.mpr ((sortedS_pw st nd).imp fun {a b} l => decide_eq_true l)) (fun k => ?_) (by rw [List.length_map, len]) hp
    · rw [List.map_map] at z
      exact z
    · cases k with
      | inr i => rw [mem_map_inr, mem]
      | inl x => exact ⟨fun m => by simp at m, fun m => by obtain ⟨i, e⟩ := one _ m; cases e⟩
/-- what stands at place j of a rising list has j ones below it -/
theorem below_len : ∀ {zs : List Key} {j : Nat} {k : Key}, zs.Pairwise (fun a b => ltK a b = true) → zs[j]? = some k → (zs.filter fun x => ltK x k).length = j
  | [], j, k, _, h => by simp at h
  | z :: zs, 0, k, pw, h => by
    have e : z = k := by simpa using h
    subst e
    obtain ⟨h1, _⟩ := List.pairwise_cons.mp pw
    rw [List.filter_cons, ltK_irrefl]
    simp only [Bool.false_eq_true, if_false]
    rw [List.filter_eq_nil_iff.mpr fun x hx => by rw [ltK_asymm (h1 x hx)]; simp]
    rfl
  | z :: zs, j + 1, k, pw, h => by
    obtain ⟨h1, h2⟩ := List.pairwise_cons.mp pw
    have hk : zs[j]? = some k := by simpa using h
    rw [List.filter_cons, h1 k (List.mem_of_getElem? hk)]
    simp only [if_true, List.length_cons]
    rw [below_len h2 hk]
/-- the number of the different ones below -/
def rankK (ks : List Key) (k : Key) : Nat := (sof (ks.filter fun x => ltK x k)).length
theorem rank_at {ks zs : List Key} {j : Nat} {k : Key} (pw : zs.Pairwise fun a b => ltK a b = true) (mem : ∀ k, k ∈ zs ↔ k ∈ ks) (h : zs[j]? = some k) : rankK ks k = j := by
  rw [← below_len pw h]
  have nz : zs.Nodup := pw.imp fun {a b} l e => by rw [e, ltK_irrefl] at l; cases l
  refine (List.perm_ext_iff_of_nodup (nd_sof _) (nz.filter _)).mpr (fun x => ?_) |>.length_eq
  rw [mem_sof, List.mem_filter, List.mem_filter, mem]
end PSG

set_option Elab.async false
set_option linter.all false
set_option maxRecDepth 100000
set_option maxHeartbeats 8000000
/-! f(c = x, b = y, a = z): keywords alone, in another sequence than the parameters -/
namespace PSG
open PySem PySem.Spec L2
section
variable {X : Cx} {CT : CXT} {k : Nat} {f : Addr} {fd : FuncData} {ps ks : List Str} {sp : Sp} {E : L2.St → XK} {x : Str} {p pos : Pos} {kws : List Keyword} {t : TA}
def tCallG (sp : Sp) (gV : List V → List V) (E : L2.St → XK) (t : TA) : TE := fun σ H Q => t σ H fun vs H1 => sp (gV vs) H1 Q (E σ)
theorem pe_callR {g : List Value → List Value} {gV : List V → List V} (F : FnOk X.prog X.w X.K X.mg X.base CT k f fd ps sp) (room : Room k X.A) (hg : Gl X x) (hm : X.mg x = some (.ref f)) (keep : PySem.W.keepIn X.K (.ref f) = true)
    (bi : ∀ (s : Shared) (ws : List Value), X.K.In s.heap → (g ws).length = ps.length → BindsTo s fd ⟨[], ks.zip ws⟩ (ps.zip (g ws))) (rel : ∀ {vs : List V} {ws : List Value}, Vals vs ws → Vals (gV vs) (g ws)) (pass : ∀ σ, PassesAt CT X σ (E σ))
    (ha : PK X kws t) (hall : (backToKw pos (keywordEach kws X.env)).all (·.1.isSome) = true := by rfl) (hks : (backToKw pos (keywordEach kws X.env)).filterMap (·.1) = ks := by rfl)
    (nd : (x == ("__debug__" : Str)) = false := by decide) (sn : ((backTo pos (starEach [] X.env)).any (·.1) || (backToKw pos (keywordEach kws X.env)).any (·.1.isNone)) = false := by rfl) :
    PE X (.Call (.Name x p) [] kws pos) (tCallG sp gV E t) where
  run := fun pins s σ H Q I h => by
    refine wpAny_Call_Name_kw (ld_glob I hg hm ?_ nd)
    refine PySem.W.callWith_KW0 (h₀ := X.base) I.ok.mod.kin keep hall (thn (ha.run pos pins s σ H _ I h) fun ws s1 ⟨vs, H1, I1, r1, q1⟩ => ⟨I1.kIn, ?_⟩) sn
    rw [hks]
    show wpAny _ _ (call (.ref f) [] (ks.zip ws)) _ _ _
    have r2 := rel r1
    have lw : (g ws).length = ps.length := r2.length.symm.trans (F.len _ _ _ _ q1)
    refine wpAny_call (codeAny_mono (F.run X.A X.stack s1 H1 ⟨[], ks.zip ws⟩ (g ws) (gV vs) Q (E σ) room I1.env0 (bi s1 ws I1.kIn lw) r2 q1) fun r s' z => ?_)
    match r, z with
    | .error er, z => exact pass σ pins H1 s1 er s' I1 z
    | .ok (.ret u), z => exact I1.after z
end
theorem for_enum {K : PySem.W.Frag} {a : Addr} {xs : List V} {g : TG} {tb : TS} {D : Ends} {σ : L2.St} {H : Hp} (Pv : Nat → L2.St → Hp → Prop) (h0 : Pv 0 σ H) (hl : ∀ i σ H, Pv i σ H → SqL K H a xs)
    (hs : ∀ i x σ H T, xs[i]? = some x → Pv i σ H → H T = none → g (.ref T) σ (upd H T (.tup [.int (i : Nat), x])) fun σ2 H2 => tb { D with nx := Pv (i + 1), ct := Pv (i + 1), bk := D.nx } σ2 H2) (hd : ∀ σ H, Pv xs.length σ H → D.nx σ H) :
    ∃ W : Nat → Nat → L2.St → Hp → Prop, (∃ m, W 0 m σ H) ∧ ∀ i m σ H, W i m σ H →
      ((Ite K a).stop i H ∧ D.nx σ H) ∨ ((Ite K a).go i H ∧ ∃ N : L2.St → Hp → Prop, (∀ σ' H', N σ' H' → ∃ m', m' < m ∧ W (i + 1) m' σ' H') ∧ ∀ x H', (Ite K a).yld i H x H' → g x σ H' fun σ2 H2 => tb { D with nx := N, ct := N, bk := D.nx } σ2 H2) := by
  refine ⟨fun i m σ H => m = xs.length - i ∧ i ≤ xs.length ∧ Pv i σ H, ⟨xs.length, by simp, Nat.zero_le _, h0⟩, fun i m σ H hw => ?_⟩
  obtain ⟨hm, hi, p⟩ := hw
  have sq := hl i σ H p
  by_cases lt : i < xs.length
  · refine .inr ⟨⟨xs, xs[i], sq, List.getElem?_eq_getElem lt⟩, Pv (i + 1), fun σ' H' q => ⟨m - 1, by omega, by omega, by omega, q⟩, fun v H' y => ?_⟩
    obtain ⟨T, x, rfl, hT, rfl, at_⟩ := y
    exact hs i x σ H T (at_ xs sq) p hT
  · have e : i = xs.length := by omega
    refine .inl ⟨⟨xs, sq, by omega⟩, hd σ H ?_⟩
    rw [← e]
    exact p
theorem pass0At {X : Cx} : ∀ σ : L2.St, PassesAt CX0 X σ ((fun _ => E0) σ) := fun _ _ _ _ _ _ _ h => h.elim
/-- three, the other way round -/
def flip3 {α : Type} : List α → List α
  | [a, b, c] => [c, b, a]
  | _ => []
theorem flip3_rel {vs : List V} {ws : List Value} (r : Vals vs ws) : Vals (flip3 vs) (flip3 ws) := by
  match vs, ws, r with
  | [], [], .nil => exact .nil
  | [_], [_], _ => exact .nil
  | [_, _], [_, _], _ => exact .nil
  | [_, _, _], [_, _, _], .cons r1 (.cons r2 (.cons r3 .nil)) => exact .cons r3 (.cons r2 (.cons r1 .nil))
  | _ :: _ :: _ :: _ :: _, _ :: _ :: _ :: _ :: _, _ => exact .nil
end PSG

set_option Elab.async false
set_option linter.all false
/-! sequences that rise strictly: one element put in, buckets, and that there is one such sequence alone -/
namespace PSO
variable {α : Type}
theorem pw_one {T : α → α → Prop} (asym : ∀ a b, T a b → ¬ T b a) : ∀ {L M : List α}, L.Perm M → L.Pairwise T → M.Pairwise T → L = M
  | [], M, p, _, _ => by
    have := p.length_eq
    cases M with
    | nil => rfl
    | cons y r => simp at this
  | x :: L, [], p, _, _ => by
    have := p.length_eq
    simp at this
  | x :: L, y :: M, p, hl, hm => by
    obtain ⟨l1, l2⟩ := List.pairwise_cons.mp hl
    obtain ⟨m1, m2⟩ := List.pairwise_cons.mp hm
    have e : x = y := by
      refine Classical.byContradiction fun n => ?_
      have hx : x ∈ M := (List.mem_cons.mp (p.mem_iff.mp List.mem_cons_self)).resolve_left n
      have hy : y ∈ L := (List.mem_cons.mp (p.mem_iff.mpr List.mem_cons_self)).resolve_left fun e => n e.symm
      exact asym _ _ (l1 y hy) (m1 x hx)
    subst e
    rw [pw_one asym (List.Perm.cons_inv p) l2 m2]
/-- x put at its place -/
theorem pw_put {T : α → α → Prop} (tr : ∀ a b c, T a b → T b c → T a c) {L : List α} {p : Nat} {x : α} (pw : L.Pairwise T) (lo : p = 0 ∨ ∃ y, L[p - 1]? = some y ∧ T y x) (hi : ∀ i y, p ≤ i → L[i]? = some y → T x y) :
    (L.take p ++ x :: L.drop p).Pairwise T := by
  have up : ∀ y ∈ L.drop p, T x y := fun y hy => by
    obtain ⟨i, hi'⟩ := List.mem_iff_getElem?.mp hy
    rw [List.getElem?_drop] at hi'
    exact hi _ _ (Nat.le_add_right _ _) hi'
  have down : ∀ y ∈ L.take p, T y x := fun y hy => by
    obtain ⟨i, hi'⟩ := List.mem_iff_getElem?.mp hy
    rw [List.getElem?_take] at hi'
    split at hi'
    · next lt =>
      rcases lo with rfl | ⟨z, hz, tz⟩
      · omega
      · by_cases e : i = p - 1
        · rw [e, hz] at hi'
          cases hi'
          exact tz
        · obtain ⟨l1, e1⟩ := List.getElem?_eq_some_iff.mp hi'
          obtain ⟨l2, e2⟩ := List.getElem?_eq_some_iff.mp hz
          have q := List.pairwise_iff_getElem.mp pw i (p - 1) l1 l2 (by omega)
          rw [e1, e2] at q
          exact tr _ _ _ q tz
    · cases hi'
  have both := List.pairwise_append.mp (by rw [List.take_append_drop]; exact pw : (L.take p ++ L.drop p).Pairwise T)
  refine List.pairwise_append.mpr ⟨both.1, List.pairwise_cons.mpr ⟨up, both.2.1⟩, fun a ha b hb => ?_⟩
  rcases List.mem_cons.mp hb with rfl | hb
  · exact down a ha
  · exact both.2.2 a ha b hb
theorem perm_put {L : List α} {p : Nat} {x : α} : (L.take p ++ x :: L.drop p).Perm (x :: L) := by
  refine (List.perm_middle).trans ?_
  rw [List.take_append_drop]
/-- by values one behind another, each bucket in the sequence as it was -/
def buckets {β : Type} [DecidableEq β] (key : α → β) (vs : List β) (L : List α) : List α := vs.flatMap fun v => L.filter fun x => decide (key x = v)
theorem mem_buckets {β : Type} [DecidableEq β] {key : α → β} {vs : List β} {L : List α} {x : α} : x ∈ buckets key vs L ↔ x ∈ L ∧ key x ∈ vs := by
  unfold buckets
  rw [List.mem_flatMap]
  constructor
  · rintro ⟨v, hv, hx⟩
    obtain ⟨h1, h2⟩ := List.mem_filter.mp hx
    exact ⟨h1, by rw [of_decide_eq_true h2]; exact hv⟩
  · rintro ⟨h1, h2⟩
    exact ⟨_, h2, List.mem_filter.mpr ⟨h1, decide_eq_true rfl⟩⟩
theorem pw_buckets {β : Type} [DecidableEq β] {key : α → β} {R : β → β → Prop} {T : α → α → Prop} {L : List α} (pw : L.Pairwise T) : ∀ {vs : List β}, vs.Pairwise R → (buckets key vs L).Pairwise fun a b => R (key a) (key b) ∨ (key a = key b ∧ T a b)
  | [], _ => List.Pairwise.nil
  | v :: vs, h => by
    obtain ⟨h1, h2⟩ := List.pairwise_cons.mp h
    have e : buckets key (v :: vs) L = (L.filter fun x => decide (key x = v)) ++ buckets key vs L := rfl
    rw [e]
    refine List.pairwise_append.mpr ⟨?_, pw_buckets pw h2, fun a ha b hb => ?_⟩
    · have q := pw.filter (fun x => decide (key x = v))
      refine List.Pairwise.imp_of_mem (fun {a b} ha hb t => .inr ⟨?_, t⟩) q
      rw [of_decide_eq_true (List.mem_filter.mp ha).2, of_decide_eq_true (List.mem_filter.mp hb).2]
    · left
      rw [of_decide_eq_true (List.mem_filter.mp ha).2]
      exact h1 _ (mem_buckets.mp hb).2
theorem nodup_of_pw {T : α → α → Prop} (irr : ∀ a, ¬ T a a) {L : List α} (pw : L.Pairwise T) : L.Nodup := List.Pairwise.imp (S := fun a b => a ≠ b) (fun {a b} t (e : a = b) => irr a (by
  rw [← e] at t
  exact t)) pw
/-- the same elements, each once: a rearrangement -/
theorem perm_of_mem {L M : List α} (hl : L.Nodup) (hm : M.Nodup) (h : ∀ x, x ∈ L ↔ x ∈ M) : L.Perm M := (List.perm_ext_iff_of_nodup hl hm).mpr h
end PSO

set_option Elab.async false
set_option linter.all false
set_option maxRecDepth 100000
set_option maxHeartbeats 8000000
namespace PSE
open PySem PySem.Spec L2 PSG
theorem called_any {M : Model} {A : Around} {E : Value → Shared → Prop} {s : Shared} {c : Value} {Q : Bool → Shared → Prop} (h : ∀ b, Q b s) : wpAny M A (Builtin.SmallTypes.calledThroughType c) Q E s := by
  unfold Builtin.SmallTypes.calledThroughType
  exact wpAny_bind (wpAny_stack_any fun st => wpAny_pure (h _))
/-- the walker of a tuple, and the heap with it and the enumerate that holds it -/
abbrev twO (a : Addr) : Obj := { cls := .type "tuple_iterator", data := .fields #[.ref a, .int 0 0] }
abbrev enO (h : Heap) : Obj := { cls := .type "enumerate", data := .fields #[.none, .bool false, .ref h.objs.size, rawInt 0, .none, .none] }
theorem new_enum_tuple (a : Addr) (items : Array Value) (n : Nat) (dct : Option Addr) (sl : Array (Option Value)) :
    Meets (Builtin.«enumerate.__new__» { pos := [.type "enumerate", .ref a] }) fun _ R s => s.heap.get? a = some { cls := .type "tuple", dict := dct, data := .seq items n, slots := sl } ∧
      R (.ok (.ret (.ref (s.heap.push (twO a)).objs.size))) { s with heap := (s.heap.push (twO a)).push (enO s.heap) } := by
  refine Meets.of_wp fun prog w A R s h => ?_
  obtain ⟨hp, g, d, tk, os⟩ := s
  obtain ⟨hl, hR⟩ := h
  have hT : hp.IsTuple a items := ⟨_, hl, rfl, n, rfl⟩
  have hsub := sub_enumerate
  unfold Builtin.«enumerate.__new__»
  refine wpAny_bind (wpAny_bind (wpAny_pure (wpAny_ite_false rfl (wpAny_bind (wpAny_of_eq hsub (wpAny_ite_false rfl (wpAny_pure (wpAny_ite_true rfl (wpAny_bind (called_any fun short => ?_))))))))))
  have made : ∀ {Q : Value → Shared → Prop} {E : Value → Shared → Prop}, Q (.ref (hp.push (twO a)).objs.size) ⟨(hp.push (twO a)).push (enO hp), g, d, tk, os⟩ →
      wpAny (model prog w) A.in1 (Builtin.SmallTypes.newRecord (.type "enumerate") (Builtin.SmallTypes.ownedTupleFields ++ [.ref hp.objs.size, rawInt 0, .none, .none])) Q E ⟨hp.push (twO a), g, d, tk, os⟩ := fun q => by
    unfold Builtin.SmallTypes.newRecord
    exact wpAny_newObj_type q (by first | rfl | (show _ ≤ sizeLine + 2; decide) | (show sizeOk (.fields #[_, _, _, _, _, _]); exact (by decide : 6 ≤ sizeLine + 2)))
  cases short
  · exact wpAny_ite_false rfl (wpAny_bind (wpAny_of_eq (a := (Value.ref a, none)) rfl (wpAny_bind (wpAny_pyIter_tuple hT (wpAny_bind (made (wpAny_pure ⟨_, rfl, hR⟩)))))))
  · exact wpAny_ite_true rfl (wpAny_bind (wpAny_pure (wpAny_bind (wpAny_pyIter_tuple hT (wpAny_bind (made (wpAny_pure ⟨_, rfl, hR⟩)))))))
section
variable {prog : Program} {w : World} {A : Around} {E : Value → Shared → Prop} {s : Shared}
theorem call_enum_tuple {a : Addr} {items : Array Value} {Q : Value → Shared → Prop} (hT : s.heap.IsTuple a items)
    (h : ∀ h', IsEnum h' (s.heap.objs.size + 1) s.heap.objs.size 0 .none → h'.IsTupleIter s.heap.objs.size a 0 → (∀ b o, s.heap.get? b = some o → h'.get? b = some o) → Q (.ref (s.heap.objs.size + 1)) { s with heap := h' }) :
    wpAny (model prog w) A (call (.type "enumerate") [.ref a]) Q E s := by
  obtain ⟨⟨c, dct, dt, sl⟩, hl, hc, n, hd⟩ := hT
  cases hc
  cases hd
  refine callType_new F.called_enumerate (by decide) (F.typeCall_enumerate_1 _) (F.newCall_enumerate_1 _) (fun obj => F.args_object_init_2 obj _) F.entry_enumerate_new (new_enum_tuple a items n dct sl) ⟨hl, ?_⟩
  have sz : (s.heap.push (twO a)).objs.size = s.heap.objs.size + 1 := Heap.size_push ..
  have old : ∀ b o, s.heap.get? b = some o → ((s.heap.push (twO a)).push (enO s.heap)).get? b = some o := fun b o x => Heap.get?_push_of_some _ (Heap.get?_push_of_some _ x)
  have he : IsEnum ((s.heap.push (twO a)).push (enO s.heap)) (s.heap.objs.size + 1) s.heap.objs.size 0 .none := sz ▸ Heap.get?_push_size (s.heap.push (twO a)) (o := enO s.heap) rfl
  have hi : ((s.heap.push (twO a)).push (enO s.heap)).IsTupleIter s.heap.objs.size a 0 := ⟨_, Heap.get?_push_of_some _ (Heap.get?_push_size _ rfl), rfl, rfl⟩
  show _ ∧ _
  rw [sz]
  exact ⟨⟨_, he, rfl⟩, h _ he hi old⟩
end
/-- the tuple at a, its items in new pairs with their places -/
def IteT (K : PySem.W.Frag) (a : Addr) : It where
  go := fun i H => ∃ xs x, SqT K H a xs ∧ xs[i]? = some x
  yld := fun i H v H' => ∃ T x, v = .ref T ∧ H T = none ∧ H' = upd H T (.tup [.int (i : Nat), x]) ∧ ∀ xs, SqT K H a xs → xs[i]? = some x
  stop := fun i H => ∃ xs, SqT K H a xs ∧ xs.length = i
theorem turn_enumT {P : Program} {w : World} {K : PySem.W.Frag} {elts : List Expr} {kk : Nat} {tpos : Pos} (a e it : Addr) :
    Turn P w K (.Tuple elts kk tpos) (IteT K a) [e, it] e fun i h => (∃ old, IsEnum h e it ((i : Nat) : Int) old) ∧ h.IsTupleIter it a i ∧ e ≠ it := by
  have two : ∀ b, b ∈ [e, it] ↔ b = e ∨ b = it := fun b => by simp
  have apart : ∀ {h : Heap} {its : Array Value} {old : Value} {c : Int} {i : Nat}, IsEnum h e it c old → h.IsTupleIter it a i → h.IsTuple a its → a ≠ e ∧ a ≠ it := fun he hi ht => by
    obtain ⟨o, ho, hc, _⟩ := ht
    obtain ⟨o2, ho2, hc2, _⟩ := hi
    refine ⟨fun z => ?_, fun z => ?_⟩
    · rw [z, he] at ho
      cases ho
      exact absurd (Value.type.inj hc) (by decide)
    · rw [z, ho2] at ho
      cases ho
      exact absurd (Value.type.inj (hc2.symm.trans hc)) (by decide)
  refine ⟨by simp, ?_, ?_, ?_, ?_, ?_⟩
  · rintro i h ⟨⟨old, he⟩, ⟨o, ho, hc, hd⟩, _⟩ b hb
    rcases (two b).mp hb with rfl | rfl
    · exact ⟨_, he, fun v q => nomatch q⟩
    · exact ⟨o, ho, fun v q => nomatch hd.symm.trans q⟩
  · rintro i h h' ⟨⟨old, he⟩, hi, ne⟩ k
    exact ⟨⟨old, k e (by simp) _ he⟩, hi.at fun o q => k it (by simp) o q, ne⟩
  · rintro X rfl rfl rfl hc i pins s σ H E I hf ⟨⟨old, he⟩, hi, ne⟩ ⟨xs, x, hq, hx⟩
    obtain ⟨its, rv, p, hz⟩ := I.tuple hq
    have ht : s.heap.IsTuple a its.toArray := p
    obtain ⟨u, hu, ru⟩ := rv.get hx
    obtain ⟨ae, ai⟩ := apart he hi ht
    have lt : i < its.toArray.size := by
      have := (List.getElem?_eq_some_iff.mp hu).1
      simpa using this
    have le : e < s.heap.objs.size := Heap.lt_size he
    have li : it < s.heap.objs.size := by
      obtain ⟨o, ho, _⟩ := hi
      exact Heap.lt_size ho
    refine wpAny_pyNext_enum_itemD (Draws.tuple (prog := X.prog) (w := X.w) (A := X.A.in1) (I.ok.hd hc) it a ai its.toArray) he ⟨hi, ht⟩ lt ne (by simp [ne, Ne.symm ae]) fun y h' tk hy ho st' hT hsz hk => ?_
    have ey : y = u := by
      have e1 : its.toArray[i]? = some u := by simpa using hu
      rw [e1] at hy
      exact (Option.some.inj hy).symm
    subst ey
    refine ⟨_, rfl, wpAny_letOwnedTupleGo_enum (s := { s with heap := h', toks := tk + 1 }) ho fun h2 he2 sb => ?_⟩
    have hT2 := (sb.2 _ (Nat.ne_of_gt le)).trans hT
    have I1 : Inv X pins σ (upd H s.heap.objs.size (.tup [.int (i : Nat), x])) { s with heap := h2, toks := tk + 1 } :=
      I.turnedNew (ch := [e, it]) (fun b ob hb q => (sb.2 b fun z => hb ((two b).mpr (.inl z))).trans (hk b ob (fun z => hb ((two b).mpr (.inl z))) (fun z => hb ((two b).mpr (.inr z))) q)) hf (Nat.le_refl _)
        ⟨by show 2 ≤ sizeLine; decide, [.int i tk, y], .cons ⟨_, rfl⟩ (.cons ru .nil), ⟨_, hT2, rfl, _, rfl⟩⟩
    refine ⟨.ref s.heap.objs.size, _, I1, rfl, ⟨_, x, rfl, I.hok.fresh (Nat.le_refl _), rfl, fun ys hy => by rw [I.tuple_inj hy hq]; exact hx⟩, ⟨⟨y, ?_⟩, st'.1.at fun o q => (sb.2 it (Ne.symm ne)).trans q, ne⟩, fun b hb => ?_⟩
    · rw [Int.natCast_add]
      exact he2
    · have lb : b < s.heap.objs.size := by
        rcases (two b).mp hb with rfl | rfl
        · exact le
        · exact li
      rw [upd_ne (Nat.ne_of_lt lb)]
      exact (hf b hb).1
  · rintro X rfl rfl rfl hc i pins s σ H E I hf ⟨⟨old, he⟩, hi, ne⟩ ⟨xs, hq, hx⟩
    obtain ⟨its, rv, p, hz⟩ := I.tuple hq
    have ht : s.heap.IsTuple a its.toArray := p
    obtain ⟨ae, ai⟩ := apart he hi ht
    have hl := rv.length
    have sz : its.toArray.size = i := by simp; omega
    obtain ⟨f0, f1, f2, f3, f4, f5⟩ := hf it (by simp)
    exact wpAny_pyNext_enum_endD (Draws.tuple (prog := X.prog) (w := X.w) (A := X.A.in1) (I.ok.hd hc) it a ai its.toArray) he (by rw [sz]; exact ⟨hi, ht⟩) fun h' eb => ⟨rfl, I.turned (t' := s.toks) (fun b o hb q => eb b o hb q) f0 f1 f3 f4 f5⟩
  · rintro A i s Q E ⟨⟨old, he⟩, _⟩ h
    exact wpAny_pyIter_enum he h
def iEnumT (K : PySem.W.Frag) (ta : TA) : TI := fun σ H R => ta σ H fun vs H1 => ∃ a xs, vs = [.ref a] ∧ SqT K H1 a xs ∧ R (IteT K a) H1
open PyProof.Rows in
theorem pi_enumT {X : Cx} {e : Expr} {ta : TA} {p pos tpos : Pos} {elts : List Expr} {kk : Nat} (hg : Gl X "enumerate") (hm : X.mg "enumerate" = none) (ha : PA X [e] ta) (hs : starEach [e] X.env = [(false, eval e X.env)] := by rfl) :
    PI X (.Tuple elts kk tpos) (.Call (.Name "enumerate" p) [e] [] pos) (iEnumT X.K ta) := by
  refine ⟨fun pins s σ H R I h => Call_ (ld_blt I hg hm boot_enumerate (callWith_type1 (thn (ha.run pos pins s σ H _ I h) fun us s1 z => ?_) hs rfl))⟩
  obtain ⟨_, H1, I1, rv, a, xs, rfl, hq, q⟩ := z
  obtain _ | ⟨r, rr⟩ := rv
  cases rr
  cases r
  obtain ⟨its, _, p', _⟩ := I1.tuple hq
  refine call_enum_tuple (show s1.heap.IsTuple a its.toArray from p') fun h' he hi old => wpAny_pyIter_enum he ?_
  refine ⟨s1.heap.objs.size + 1, [s1.heap.objs.size + 1, s1.heap.objs.size], _, _, H1, rfl, I1.kept (t' := s1.toks) old, turn_enumT a _ _, ⟨⟨.none, he⟩, hi, Nat.succ_ne_self _⟩, fun b hb => ?_, q⟩
  have le : s1.heap.objs.size ≤ b := by
    have hb' : b = s1.heap.objs.size + 1 ∨ b = s1.heap.objs.size := by simpa using hb
    rcases hb' with z | z
    · rw [z]
      exact Nat.le_add_right _ _
    · rw [z]
      exact Nat.le_refl _
  exact I1.fpOk le (I1.hok.fresh le)
theorem for_enumT {K : PySem.W.Frag} {a : Addr} {xs : List V} {g : TG} {tb : TS} {D : Ends} {σ : L2.St} {H : Hp} (Pv : Nat → L2.St → Hp → Prop) (h0 : Pv 0 σ H) (hl : ∀ i σ H, Pv i σ H → SqT K H a xs)
    (hs : ∀ i x σ H T, xs[i]? = some x → Pv i σ H → H T = none → g (.ref T) σ (upd H T (.tup [.int (i : Nat), x])) fun σ2 H2 => tb { D with nx := Pv (i + 1), ct := Pv (i + 1), bk := D.nx } σ2 H2) (hd : ∀ σ H, Pv xs.length σ H → D.nx σ H) :
    ∃ W : Nat → Nat → L2.St → Hp → Prop, (∃ m, W 0 m σ H) ∧ ∀ i m σ H, W i m σ H →
      ((IteT K a).stop i H ∧ D.nx σ H) ∨ ((IteT K a).go i H ∧ ∃ N : L2.St → Hp → Prop, (∀ σ' H', N σ' H' → ∃ m', m' < m ∧ W (i + 1) m' σ' H') ∧ ∀ x H', (IteT K a).yld i H x H' → g x σ H' fun σ2 H2 => tb { D with nx := N, ct := N, bk := D.nx } σ2 H2) := by
  refine ⟨fun i m σ H => m = xs.length - i ∧ i ≤ xs.length ∧ Pv i σ H, ⟨_, rfl, Nat.zero_le _, h0⟩, ?_⟩
  rintro i m σ H ⟨rfl, le, p⟩
  have sq := hl i σ H p
  by_cases lt : i < xs.length
  · refine .inr ⟨⟨xs, xs[i], sq, List.getElem?_eq_getElem lt⟩, Pv (i + 1), fun σ' H' p' => ⟨_, by omega, rfl, lt, p'⟩, fun v H' y => ?_⟩
    obtain ⟨T, x, rfl, hT, rfl, all⟩ := y
    exact hs i x σ H T (all xs sq) p hT
  · have e : i = xs.length := by omega
    subst e
    exact .inl ⟨⟨xs, sq, rfl⟩, hd σ H p⟩
end PSE

set_option Elab.async false
set_option linter.all false
set_option maxRecDepth 100000
set_option maxHeartbeats 4000000
/-! list(reversed(a list)) -/
namespace PSV
open PySem PySem.Spec PyProof.Rows L2 RT
section
variable {prog : Program} {w : World} {A : Around} {E : Value → Shared → Prop} {s : Shared}
theorem hint_lriF {it l : Addr} {i : Int} {Q : Bool → Shared → Prop} (hit : s.heap.IsRevIter it l i) (h : Q false s) : wpAny (model prog w) A (Builtin.List.listLengthHint (.ref it)) Q E s := by
  have hT : s.TypeIs (.ref it) "list_reverseiterator" := hit.typeIs
  unfold Builtin.List.listLengthHint
  refine wpAny_bind (wpAny_specialOf hT nolen_lri ?_)
  show wpAny _ A (specialOf (Value.ref it) (Str.ofString "__length_hint__") >>= _) _ _ _
  refine wpAny_bind (wpAny_specialOf hT hint_lri ?_)
  generalize hid : ("list_reverseiterator.__length_hint__" : String) = id0
  wp_delta
  rw [show splitId id0 = some ("list_reverseiterator", "__length_hint__") from by subst hid; decide +kernel]
  subst hid
  refine wpAny_bind (wpAny_isInstance (b := true) hT (by rw [isSubtype_type]; kernel_rfl) ?_)
  exact wpAny_pure h
theorem ext_rev {R : Result → Shared → Prop} {it l : Addr} {items : Array Value} (hh : A.handled = none) (hit : s.heap.IsRevIter it l ((items.size : Int) - 1)) (hl : s.heap.IsList l items) (hne : l ≠ it) (hn : items.size ≤ sizeLine) (S : Addr) (hSi : S ≠ it) (hSl : S ≠ l) (res : Value) (c₀ : Nat) (hS : s.heap.get? S = some { cls := .type "list", data := .seq #[] c₀ })
    (hR : ∀ h' tk acc' c', (∀ b o, b ≠ S → b ≠ it → s.heap.get? b = some o → h'.get? b = some o) → h'.get? S = some { cls := .type "list", dict := none, data := .seq acc' c', slots := #[] } → ItemsOf (fun i v => items[items.size - 1 - i]? = some v) acc' items.size → R (.ok (.ret res)) { s with heap := h', toks := tk }) :
    wpAny (model prog w) A.in1 (Builtin.List.listExtendWith (.ref S) (.ref it) res)
      (fun fin s' => match fin with | .done f => R (.ok f) s' | .again c' => c'.quiet = true ∧ codeAny (model prog w) A c' R s') (fun e s' => R (.error e) s') s := by
  have W := (Walks.listRev (prog := prog) (w := w) (A := A.in1) hh it l hne items).toS
  have hSf : S ∉ [it, l] := by simp only [List.mem_cons, List.not_mem_nil, or_false, not_or]; exact ⟨hSi, hSl⟩
  have hT : s.TypeIs (.ref it) "list_reverseiterator" := hit.typeIs
  have h1 : Builtin.List.listSameRef (.ref S) (.ref it) = false := by simp [Builtin.List.listSameRef, hSi]
  unfold Builtin.List.listExtendWith
  refine wpAny_bind (wpAny_typeOf hT ?_)
  rw [if_neg (by rw [h1]; decide)]
  refine wpAny_bind (wpAny_pyIter_revIter hit ?_)
  refine wpAny_bind (wpAny_holding (hint_lriF hit ?_))
  rw [if_neg (by decide)]
  have e0 : ((items.size : Nat) : Int) - 1 - ((0 : Nat) : Int) = (items.size : Int) - 1 := by omega
  refine wpAny_pure ⟨plainId_quiet PySem.F.plain_extend_loop _, codeAny_extend_loopS W hn _ hSf _ items.size 0 _ _ _ rfl (Nat.zero_le _) ⟨Nat.zero_le _, by rw [e0]; exact hit, hl⟩ hS (ItemsOf.nil _) fun s' acc' c' hm hS' hacc => ?_⟩
  rw [Moved.eq_with hm]
  refine hR s'.heap s'.toks acc' c' (fun b o hb hb2 e => hm.heap b o (fun hmem => ?_) e) hS' hacc
  rcases List.mem_cons.mp hmem with e' | hmem
  · exact hb e'
  · exact hb2 (List.mem_singleton.mp hmem)
theorem init_rev {R : Result → Shared → Prop} {it l : Addr} {items : Array Value} (hh : A.handled = none) (hit : s.heap.IsRevIter it l ((items.size : Int) - 1)) (hl : s.heap.IsList l items) (hne : l ≠ it) (hn : items.size ≤ sizeLine) (S : Addr) (hSi : S ≠ it) (hSl : S ≠ l) (hS : s.heap.get? S = some { cls := .type "list", data := .seq #[] })
    (hR : ∀ h' tk acc' c', (∀ b o, b ≠ S → b ≠ it → s.heap.get? b = some o → h'.get? b = some o) → h'.get? S = some { cls := .type "list", dict := none, data := .seq acc' c', slots := #[] } → ItemsOf (fun i v => items[items.size - 1 - i]? = some v) acc' items.size → R (.ok (.ret .none)) { s with heap := h', toks := tk }) :
    wpAny (model prog w) A.in1 (Builtin.«list.__init__» ⟨[.ref S, .ref it], []⟩)
      (fun fin s' => match fin with | .done f => R (.ok f) s' | .again c' => c'.quiet = true ∧ codeAny (model prog w) A c' R s') (fun e s' => R (.error e) s') s := by
  show wpAny _ _ (do let old ← Builtin.List.listItems (.ref S); Builtin.List.listUpdate (.ref S) (fun _ => #[]); letGo old.toList.reverse; Builtin.List.listExtendWith (.ref S) (.ref it) .none) _ _ s
  refine wpAny_bind ?_
  unfold Builtin.List.listItems
  refine wpAny_bind (wpAny_seqItems hS rfl (wpAny_pure ?_))
  show wpAny _ _ (updateSeq S (fun _ => #[]) >>= fun _ => letGo (#[] : Array Value).toList.reverse >>= fun _ => Builtin.List.listExtendWith (.ref S) (.ref it) .none) _ _ s
  refine wpAny_bind (wpAny_updateSeq hS rfl ?_)
  have hS₂ := Heap.get?_update_self (Obj.mapSeq (fun _ => (#[] : Array Value))) hS rfl
  have oth : ∀ b o, b ≠ S → s.heap.get? b = some o → (s.heap.update S (Obj.mapSeq (fun _ => (#[] : Array Value)))).get? b = some o :=
    fun b o hb e => (Heap.get?_update_other _ _ (Ne.symm hb)).trans e
  refine wpAny_bind (wpAny_letGo ?_)
  have hl2 : (s.heap.update S (Obj.mapSeq (fun _ => (#[] : Array Value)))).IsList l items := by
    obtain ⟨o, e, r⟩ := hl
    exact ⟨o, oth _ _ hSl.symm e, r⟩
  refine ext_rev hh (hit.at fun o e => oth _ _ hSi.symm e) hl2 hne hn S hSi hSl .none _ hS₂ (fun h' tk acc' c' hk hS' hacc => ?_)
  exact hR h' tk acc' c' (fun b o hb hb2 e => hk b o hb hb2 (oth b o hb e)) hS' hacc
theorem call_list_rev {it l : Addr} {items : Array Value} {Q : Value → Shared → Prop} (hh : A.handled = none) (hit : s.heap.IsRevIter it l ((items.size : Int) - 1)) (hl : s.heap.IsList l items) (hne : l ≠ it) (hn : items.size ≤ sizeLine)
    (hQ : ∀ h' tk acc' c', (∀ b o, b ∉ [it] → s.heap.get? b = some o → h'.get? b = some o) → h'.get? s.heap.objs.size = some { cls := .type "list", dict := none, data := .seq acc' c', slots := #[] } → ItemsOf (fun i v => items[items.size - 1 - i]? = some v) acc' items.size → Q (.ref s.heap.objs.size) { s with heap := h', toks := tk }) :
    wpAny (model prog w) A (call (.type "list") [.ref it]) Q E s := by
  refine callType_codes (Q₁ := fun obj s₁ => obj = .ref s.heap.objs.size ∧ s₁ = { s with heap := s.heap.push { cls := .type "list", data := .seq #[] } }) PySem.F.called_list (PySem.F.typeCall_list_1 _) PySem.F.entry_list_init
    (code_list_new _ ⟨rfl, rfl⟩) fun obj s₁ h₁ => ?_
  obtain ⟨rfl, rfl⟩ := h₁
  have hS : (s.heap.push { cls := .type "list", data := .seq #[] }).get? s.heap.objs.size = some { cls := .type "list", data := .seq #[] } := Heap.get?_push_size _ rfl
  obtain ⟨oi, hoi, _⟩ := id hit
  obtain ⟨ol, hol, _⟩ := id hl
  refine ⟨⟨_, hS, rfl⟩, PySem.F.args_list_init_2 _ _, init_rev (A := A.in1) hh (hit.at fun o e => Heap.get?_push_of_some _ e) (hl.push _) hne hn _ (Nat.ne_of_gt (Heap.lt_size hoi)) (Nat.ne_of_gt (Heap.lt_size hol)) hS (fun h' tk acc' c' hk hS' hacc => ?_)⟩
  exact ⟨rfl, hQ h' tk acc' c' (fun b o hb e => hk b o (Nat.ne_of_lt (Heap.lt_size e)) (fun z => hb (by rw [z]; exact List.mem_singleton.mpr rfl)) (Heap.get?_push_of_some _ e)) hS' hacc⟩
end
/-- list(reversed(x)), x a list: a new list -/
def tLstRev (K : PySem.W.Frag) (te : TE) : TE := fun σ H Q => te σ H fun v H1 => ∃ (a : Addr) (xs : List V), v = .ref a ∧ SqL K H1 a xs ∧ ∀ q, H1 q = none → Q (.ref q) (upd H1 q (.lst xs.reverse))
section
variable {X : Cx}
theorem pe_lstRev {e : Expr} {te : TE} {p p2 pos pos2 : Pos} (hc : X.calm = true) (hg : Gl X "list") (hm : X.mg "list" = none) (hg2 : Gl X "reversed") (hm2 : X.mg "reversed" = none) (he : PE X e te)
    (hs : starEach [e] X.env = (false, eval e X.env) :: starEach [] X.env := by rfl)
    (hs2 : starEach [.Call (.Name "reversed" p2) [e] [] pos2] X.env = (false, eval (.Call (.Name "reversed" p2) [e] [] pos2) X.env) :: starEach [] X.env := by rfl) :
    PE X (.Call (.Name "list" p) [.Call (.Name "reversed" p2) [e] [] pos2] [] pos) (tLstRev X.K te) := by
  refine ⟨fun pins s σ H Q I h => ?_⟩
  refine Call_ (ld_blt I hg hm boot_list (PyProof.Rows.callWith_type1 (args_cons (Call_ (ld_blt I hg2 hm2 PyProof.Rows.boot_reversed (PyProof.Rows.callWith_type1 (args_cons (thn (he.run pins s σ H _ I h) fun u s1 ⟨v, H1, I1, r1, q1⟩ => args_nil ?_) hs) hs rfl))) hs2) hs2 rfl))
  obtain ⟨a, xs, ev, hq, q⟩ := q1
  subst ev
  obtain rfl : u = Value.ref a := r1
  obtain ⟨its, rv, p', hz⟩ := I1.list hq
  refine call_reversed_list p'.isList (args_nil ?_)
  have k0 : ∀ b o, s1.heap.get? b = some o → (s1.heap.push (revObj a ((its.toArray.size : Int) - 1))).get? b = some o := fun b o e => Heap.get?_push_of_some _ e
  have I2 : Inv X pins σ H1 { s1 with heap := s1.heap.push (revObj a ((its.toArray.size : Int) - 1)) } := I1.kept (t' := s1.toks) k0
  have fp := I1.fpOk (H' := H1) (b := s1.heap.objs.size) (Nat.le_refl _) (I1.hok.fresh (Nat.le_refl _))
  have hl := p'.isList
  obtain ⟨ol, hol, _⟩ := id hl
  have hne : a ≠ s1.heap.objs.size := Nat.ne_of_lt (Heap.lt_size hol)
  have hn : its.toArray.size ≤ sizeLine := by rw [List.size_toArray, ← rv.length]; exact hz
  refine call_list_rev (s := { s1 with heap := s1.heap.push (revObj a ((its.toArray.size : Int) - 1)) }) (I1.ok.hd hc) ⟨_, Heap.get?_push_size _ rfl, rfl, rfl⟩ (hl.push _) hne hn fun h' tk acc c hk hT hi => ?_
  have hsz : s1.heap.objs.size ≤ (s1.heap.push (revObj a ((its.toArray.size : Int) - 1))).objs.size := by rw [PyProof.Rows.size_push']; exact Nat.le_succ _
  have hn2 : H1 (s1.heap.push (revObj a ((its.toArray.size : Int) - 1))).objs.size = none := I1.hok.fresh hsz
  refine ⟨.ref (s1.heap.push (revObj a ((its.toArray.size : Int) - 1))).objs.size, upd H1 _ (.lst xs.reverse), I2.turnedNew (t' := tk) hk (fun b hb => ?_) (Nat.le_refl _) ⟨by rw [List.length_reverse]; exact hz, acc.toList, c, vals_rev rv hi, ?_⟩, rfl, q _ hn2⟩
  · have e : b = s1.heap.objs.size := by simpa using hb
    subst e
    exact fp
  · rw [Array.toArray_toList]
    exact hT
end
end PSV

set_option Elab.async false
set_option linter.all false
set_option maxRecDepth 100000
set_option maxHeartbeats 4000000
/-! if and for in the body of a generator -/
namespace PSW
open PySem PySem.Spec PyProof.Rows L2 GenW
open PySem.Sem (wp)
section
variable {M : Model} {A : Around} {R : GenEnd} {Y : Protocol} {n : Nat} {s₀ : Shared} {c : Code} {fs : List Frame} {s : Shared} {env : Env}
  {K : Flow → Sem PySem.Fin} {J : Value → Sem PySem.Fin} {gd : Bool → Bool} {lv : List Value → List Value}
theorem seg_if {test : Expr} {body orelse : List Stmt} {pos : Pos}
    (h : wpAny M (A.over c fs) (isTrue test env (eval test env)) (fun b s' => if b = true then Seg M A R Y n s₀ c ((execs body env).wrap K J gd lv) fs s' else Seg M A R Y n s₀ c ((execs orelse env).wrap K J gd lv) fs s')
      (fun x s' => Seg M A R Y n s₀ c (J x) fs s') s) : Seg M A R Y n s₀ c ((exec (.If test body orelse pos) env).wrap K J gd lv) fs s := by
  rw [exec_If]
  show Seg M A R Y n s₀ c (.at pos fun _ => ((isTrue test env (eval test env) >>= fun b => if b = true then execs body env else execs orelse env)).wrap K J gd lv) fs s
  refine seg_at ?_
  rw [Sem.bind_eq_wrap', Sem.wrap_wrap]
  refine seg_wrap (wpAny_mono h (fun b s' hb => ?_) fun _ _ x => x)
  cases b with
  | true => exact hb
  | false => exact hb
theorem seg_for {target iter : Expr} {body : List Stmt} {pos : Pos}
    (h : wpAny M (A.over c fs) (eval iter env) (fun x s1 => wpAny M (A.over c fs) (pyIter x) (fun it s2 => ∀ p, Seg M A R Y n s₀ (.forLoop target it body [] env) (M.den (.forLoop target it body [] env))
      (.ret (fun r => ((match r with | .ok f => (.pure f : Sem Flow) | .error e => .raise e).onRaise (cameBack env)).wrap K J gd lv) none (gd false) (lv []) c p [] :: fs) s2) (fun x s' => Seg M A R Y n s₀ c (J x) fs s') s1)
      (fun x s' => Seg M A R Y n s₀ c (J x) fs s') s)
    (hs : ∀ x, foldedSetIterable iter env x = pure x := by intro _; rfl) :
    Seg M A R Y n s₀ c ((exec (.For target iter body [] pos) env).wrap K J gd lv) fs s := by
  rw [exec_For]
  show Seg M A R Y n s₀ c (.at pos fun _ => ((eval iter env >>= fun v => foldedSetIterable iter env v >>= fun x => standAt iter.pos >>= fun _ => holding [x] (pyIter x) >>= fun it => runOwn (.forLoop target it body [] env) env)).wrap K J gd lv) fs s
  refine seg_at ?_
  rw [Sem.bind_eq_wrap', Sem.wrap_wrap]
  refine seg_wrap (wpAny_mono h (fun x s1 h1 => ?_) fun _ _ x => x)
  rw [hs x]
  show Seg M A R Y n s₀ c (.at iter.pos fun _ => (holding [x] (pyIter x) >>= fun it => runOwn (.forLoop target it body [] env) env).wrap K J gd lv) fs s1
  refine seg_at ?_
  rw [Sem.bind_eq_wrap', Sem.wrap_wrap]
  refine seg_wrap (wpAny_holding (wpAny_mono h1 (fun it s2 h2 => ?_) fun _ _ x => x))
  exact seg_call h2
end
section
variable {prog : Program} {w : World} {A : Around} {R : GenEnd} {Y : Protocol} {n : Nat} {s₀ : Shared} {fs : List Frame} {s : Shared} {env : Env}
def badTurn (env : Env) (e : Value) : Sem PySem.Fin := (do noteFrame e env; theTreesLotGoes e : Sem Unit).wrap (fun _ => .raise e) .raise id id
theorem seg_forLoop {target : Expr} {it : Value} {body : List Stmt}
    (h : wpAny (model prog w) (A.over (.forLoop target it body [] env) fs) (pyNext it) (fun r s' => match r with
        | none => Seg (model prog w) A R Y n s₀ (.forLoop target it body [] env) (.pure (.again (.block [] env))) fs s'
        | some v => wpAny (model prog w) (A.over (.forLoop target it body [] env) fs) (letOwnedTupleGo target it v) (fun _ s2 => wpAny (model prog w) (A.over (.forLoop target it body [] env) fs) (assign target env v) (fun _ s3 =>
            Seg (model prog w) A R Y n s₀ (.forLoop target it body [] env) ((execs body env).wrap (fun f => match f with
              | .next | .cont => .pure (.again (.forLoop target it body [] env))
              | .brk => .pure (.done .next)
              | .ret v => .pure (.done (.ret v))) (badTurn env) id id) fs s3)
            (fun x s' => Seg (model prog w) A R Y n s₀ (.forLoop target it body [] env) (badTurn env x) fs s') s2) (fun x s' => Seg (model prog w) A R Y n s₀ (.forLoop target it body [] env) (badTurn env x) fs s') s')
      (fun x s' => Seg (model prog w) A R Y n s₀ (.forLoop target it body [] env) (badTurn env x) fs s') s) :
    Seg (model prog w) A R Y n s₀ (.forLoop target it body [] env) ((model prog w).den (.forLoop target it body [] env)) fs s := by
  show Seg _ A R Y n s₀ _ ((forTurn target it body [] env).onRaise (fun x => do noteFrame x env; theTreesLotGoes x)) fs s
  unfold forTurn
  rw [Sem.onRaise_eq_wrap]
  have bt : ∀ e, ((do noteFrame e env; theTreesLotGoes e : Sem Unit).bind fun _ => (.raise e : Sem PySem.Fin)) = badTurn env e := fun e => Sem.bind_eq_wrap _ _
  rw [funext bt]
  refine seg_at ?_
  show Seg _ A R Y n s₀ _ ((((pyNext it).onRaise (fun _ => standAt { target.pos with line := 0 })) >>= fun r => match r with
    | none => again (.block [] env)
    | some v => letOwnedTupleGo target it v >>= fun _ => assign target env v >>= fun _ => execs body env >>= fun f => match f with
      | .next | .cont => again (.forLoop target it body [] env)
      | .brk => pure (.done .next)
      | .ret v => pure (.done (.ret v))).wrap .pure (badTurn env) id id) fs s
  rw [Sem.bind_eq_wrap', Sem.wrap_wrap]
  refine seg_wrap (wpAny_onRaise (wpAny_mono h (fun r s' hr => ?_) (fun e s' he => wpAny_standAt he)))
  cases r with
  | none => exact hr
  | some v =>
    show Seg _ A R Y n s₀ _ ((letOwnedTupleGo target it v >>= fun _ => assign target env v >>= fun _ => execs body env >>= fun f => match f with
      | .next | .cont => again (.forLoop target it body [] env)
      | .brk => pure (.done .next)
      | .ret v => pure (.done (.ret v))).wrap .pure (badTurn env) id id) fs s'
    rw [Sem.bind_eq_wrap', Sem.wrap_wrap]
    refine seg_wrap (wpAny_mono hr (fun _ s2 h2 => ?_) fun _ _ x => x)
    show Seg _ A R Y n s₀ _ ((assign target env v >>= fun _ => execs body env >>= fun f => match f with
      | .next | .cont => again (.forLoop target it body [] env)
      | .brk => pure (.done .next)
      | .ret v => pure (.done (.ret v))).wrap .pure (badTurn env) id id) fs s2
    rw [Sem.bind_eq_wrap', Sem.wrap_wrap]
    refine seg_wrap (wpAny_mono h2 (fun _ s3 h3 => ?_) fun _ _ x => x)
    show Seg _ A R Y n s₀ _ ((execs body env >>= fun f => match f with
      | .next | .cont => again (.forLoop target it body [] env)
      | .brk => pure (.done .next)
      | .ret v => pure (.done (.ret v))).wrap .pure (badTurn env) id id) fs s3
    rw [Sem.bind_eq_wrap', Sem.wrap_wrap]
    have cg : (execs body env).wrap (fun a => (match a with
        | Flow.next | Flow.cont => again (.forLoop target it body [] env)
        | .brk => pure (Fin.done .next)
        | .ret v => pure (Fin.done (.ret v))).wrap Sem.pure (badTurn env) id id) (fun e => (Sem.raise e : Sem PySem.Fin).wrap Sem.pure (badTurn env) id id) id id = (execs body env).wrap (fun f => match f with
        | .next | .cont => Sem.pure (.again (.forLoop target it body [] env))
        | .brk => Sem.pure (.done .next)
        | .ret v => Sem.pure (.done (.ret v))) (badTurn env) id id := Sem.wrap_congr _ _ _ (fun f => by cases f <;> rfl) (fun e => rfl)
    show Seg _ A R Y n s₀ _ ((execs body env).wrap _ _ id id) fs s3
    rw [cg]
    exact h3
end
section
variable {X : Cx}
def tGIf (tc : TT) (ta tb : TGn) : TGn := fun D ys σ H => tc σ H fun b H1 => if b = true then ta D ys σ H1 else tb D ys σ H1
theorem gs_if {test : Expr} {body orelse : List Stmt} {pos : Pos} {tc : TT} {ta tb : TGn} (hc : PT X test tc) (ha : GSs X body ta) (hb : GSs X orelse tb) : GS X (.If test body orelse pos) (tGIf tc ta tb) := by
  refine ⟨fun A S ip R n ys s₀ c fs K J gd lv s σ H D g hn k hI ht => ?_⟩
  obtain ⟨acc, cc, r, I⟩ := hI
  refine seg_if ?_
  rw [g.over]
  refine wpAny_mono (hc.run _ s σ H _ I ht) (fun b s' hb' => ?_) fun x s' hx => k.exc n s₀ x s' hx
  obtain ⟨H2, I2, q2⟩ := hb'
  cases b with
  | true =>
    rw [if_pos rfl] at q2 ⊢
    exact ha.run A S ip R n ys s₀ c fs K J gd lv s' σ H2 D g hn k ⟨acc, cc, r, I2⟩ q2
  | false =>
    rw [if_neg Bool.false_ne_true] at q2 ⊢
    exact hb.run A S ip R n ys s₀ c fs K J gd lv s' σ H2 D g hn k ⟨acc, cc, r, I2⟩ q2
def tGFor (wi : TI) (g : TG) (tb : TGn) : TGn := fun D ys σ H => wi σ H fun J H1 => ∃ W : Nat → Nat → List V → L2.St → Hp → Prop, (∃ m, W 0 m ys σ H1) ∧ ∀ i m ys σ H, W i m ys σ H →
  (J.stop i H ∧ D.nx ys σ H) ∨ (J.go i H ∧ ∃ N : List V → L2.St → Hp → Prop, (∀ ys' σ' H', N ys' σ' H' → ∃ m', m' < m ∧ W (i + 1) m' ys' σ' H') ∧ ∀ x H', J.yld i H x H' → g x σ H' fun σ2 H2 => tb { D with nx := N, ct := N, bk := D.nx } ys σ2 H2)
theorem gs_for {tg iter : Expr} {body : List Stmt} {wi : TI} {g : TG} {tb : TGn} {pos : Pos} (hp : PassesOwn (model X.prog X.w) X.A X.env X.xe) (hc : X.calm = true) (hi : PI X tg iter wi) (hg : PG X tg g) (hb : GSs X body tb)
    (hs : ∀ x, foldedSetIterable iter X.env x = pure x := by intro _; rfl) : GS X (.For tg iter body [] pos) (tGFor wi g tb) := by
  refine ⟨fun A S ip R n ys s₀ c fs K JJ gd lv s σ H D gc hn k hI ht => ?_⟩
  obtain ⟨acc0, cc0, r0, I0⟩ := hI
  refine seg_for ?_ hs
  rw [gc.over]
  refine wpAny_mono (hi.run _ s σ H _ I0 ht) (fun v s1 h1 => ?_) (fun x s' hx => k.exc n s₀ x s' hx)
  refine wpAny_mono h1 (fun itv s2 h2 => ?_) (fun x s' hx => k.exc n s₀ x s' hx)
  obtain ⟨it, fp, tn, J, H2, e, I2, T, st2, f2, W, ⟨m0, w0⟩, turn⟩ := h2
  subst e
  intro p
  have stat : ∀ {acc : Array Value} {cc : Nat} {H' : Hp}, (∀ b ∈ fp, H' b = none) → ∀ b ∈ fp, FpOk X ((S, lstObj acc cc) :: ip) H' b := fun {acc cc H'} hn b hb => by
    obtain ⟨g0, g1, g2, g3, g4, g5⟩ := f2 b hb
    refine ⟨hn b hb, g1, g2, g3, g4, fun q hq => ?_⟩
    rcases List.mem_append.mp hq with hq | hq
    · exact g5 q (List.mem_append_left _ hq)
    · rcases List.mem_cons.mp hq with hq | hq
      · rw [hq]
        exact g5 (S, lstObj acc0 cc0) (List.mem_append_right _ List.mem_cons_self)
      · exact g5 q (List.mem_append_right _ (List.mem_cons_of_mem _ hq))
  have offS : ∀ b ∈ fp, b ≠ S := fun b hb z => by
    obtain ⟨g0, g1, g2, g3, g4, g5⟩ := f2 b hb
    exact g5 (S, lstObj acc0 cc0) (List.mem_append_right _ List.mem_cons_self) z.symm
  have gl := fun (kk : Result → Sem PySem.Fin) => gc_loop (k := kk) (c' := .forLoop tg (.ref it) body [] X.env) (l := lv []) (kp := []) (p := p) gc rfl rfl
  have loop : ∀ (m n i : Nat) (ys : List V) (s₀ s : Shared) (σ : L2.St) (H : Hp), n + ys.length = sizeLine → W i m ys σ H → GI X S ip ys σ H s → tn i s.heap → (∀ b ∈ fp, H b = none) →
      Seg (model X.prog X.w) A R (GY X S) n s₀ (.forLoop tg (.ref it) body [] X.env) ((model X.prog X.w).den (.forLoop tg (.ref it) body [] X.env))
        (.ret (fun r => ((match r with | .ok f => (.pure f : Sem Flow) | .error e => .raise e).onRaise (cameBack X.env)).wrap K JJ gd lv) none (gd false) (lv []) c p [] :: fs) s := by
    intro m
    induction m using Nat.strongRecOn with
    | ind m ih =>
      intro n i ys s₀ s σ H hn w hI st fr
      have ee : ∀ (n : Nat) (s₀ : Shared) (x : Value) (s' : Shared), X.xe x s' → Seg (model X.prog X.w) A R (GY X S) n s₀ (.forLoop tg (.ref it) body [] X.env) (badTurn X.env x)
          (.ret (fun r => ((match r with | .ok f => (.pure f : Sem Flow) | .error e => .raise e).onRaise (cameBack X.env)).wrap K JJ gd lv) none (gd false) (lv []) c p [] :: fs) s' := fun n s₀ x s' hx => by
        unfold badTurn
        refine seg_wrap ?_
        rw [(gl _).over]
        refine wpAny_bind (wpAny_mono (hp x s' hx) (fun _ s'' hcb => wpAny_theTreesLotGoes ?_) fun y s'' hcb => ?_)
        · exact seg_leaf (.error x) (seg_cameBack gc k hcb)
        · exact seg_leaf (.error y) (seg_cameBack gc k hcb)
      refine seg_forLoop ?_
      rw [(gl _).over]
      obtain ⟨acc, cc, r, I⟩ := hI
      rcases turn i m ys σ H w with ⟨stop, qn⟩ | ⟨go, N, hN, step⟩
      · refine wpAny_mono (T.done X rfl rfl rfl hc i _ s σ H X.xe I (stat fr) st stop) (fun r' s4 h4 => ?_) (fun x s' hx => ee n s₀ x s' hx)
        obtain ⟨hr, I4⟩ := h4
        subst hr
        refine seg_again rfl ?_
        exact seg_leaf (.ok .next) (k.ok n ys s₀ s4 .next hn ⟨σ, H, ⟨acc, cc, r, I4⟩, qn⟩)
      · refine wpAny_mono (T.item X rfl rfl rfl hc i _ s σ H X.xe I (stat fr) st go) (fun r' s4 h4 => ?_) (fun x s' hx => ee n s₀ x s' hx)
        obtain ⟨u, hr, h4⟩ := h4
        subst hr
        refine wpAny_mono h4 (fun _ s5 h5 => ?_) (fun x s' hx => ee n s₀ x s' hx)
        obtain ⟨x, H5, I5, r5, y5, st5, fr5⟩ := h5
        have I5' := I5.pinned (stat fr5) (T.obj _ _ st5)
        refine wpAny_mono (hg.run _ s5 σ H5 x u _ I5' r5 (step x H5 y5)) (fun _ s6 h6 => ?_) (fun x s' hx => ee n s₀ x s' hx)
        obtain ⟨σ6, H6, I6, q6⟩ := h6
        have gl2 : ∀ kk : Result → Sem PySem.Fin, GC X S (ip ++ pinsAt fp s5.heap) A (.forLoop tg (.ref it) body [] X.env) (.ret kk none (gd false) (lv []) c p [] :: fs) id := fun kk => ⟨(gl kk).pn, fun q hq => (List.mem_append.mp hq).elim (gc.ip q) fun z => offS _ (of_pinsAt z).1, (gl kk).apart, (gl kk).over, (gl kk).split, (gl kk).guard, (gl kk).gd⟩
        refine hb.run A S (ip ++ pinsAt fp s5.heap) R n ys s₀ _ _ _ _ id id s6 σ6 H6 { D with nx := N, ct := N, bk := D.nx } (gl2 _) hn ⟨fun n' ys' s₀' s7 f hn' hs => ?_, fun n' s₀' x s3 hx => ee n' s₀' x s3 hx⟩ ⟨acc, cc, r, I6⟩ q6
        have again : ∀ {σ7 : L2.St} {H7 : Hp}, GI X S (ip ++ pinsAt fp s5.heap) ys' σ7 H7 s7 → N ys' σ7 H7 → Seg (model X.prog X.w) A R (GY X S) n' s₀' (.forLoop tg (.ref it) body [] X.env) (.pure (.again (.forLoop tg (.ref it) body [] X.env)))
            (.ret (fun r => ((match r with | .ok f => (.pure f : Sem Flow) | .error e => .raise e).onRaise (cameBack X.env)).wrap K JJ gd lv) none (gd false) (lv []) c p [] :: fs) s7 := fun {σ7 H7} g7 n7 => by
          obtain ⟨acc7, cc7, r7, I7⟩ := g7
          obtain ⟨m', hm, w7⟩ := hN ys' σ7 H7 n7
          have at7 : ∀ b ∈ fp, ∀ o, s5.heap.get? b = some o → s7.heap.get? b = some o ∧ H7 b = none := fun b hb o e => by
            have q := I7.pin (b, o) (List.mem_append_right _ (List.mem_cons_of_mem _ (List.mem_append_right _ (mem_pinsAt hb e))))
            exact ⟨q.1, q.2.1⟩
          refine seg_again rfl (ih m' hm n' (i + 1) ys' s₀' s7 σ7 H7 hn' w7 ⟨acc7, cc7, r7, I7.pins_of fun q hq => I7.pin q ?_⟩ (T.keep _ _ _ st5 fun b hb o e => (at7 b hb o e).1) fun b hb => ?_)
          · rcases List.mem_cons.mp hq with hq | hq
            · exact List.mem_append_right _ (hq ▸ List.mem_cons_self)
            · exact List.mem_append_right _ (List.mem_cons_of_mem _ (List.mem_append_left _ hq))
          · obtain ⟨o, e, d⟩ := T.obj _ _ st5 b hb
            exact (at7 b hb o e).2
        have less : ∀ {ys' : List V} {σ7 : L2.St} {H7 : Hp}, GI X S (ip ++ pinsAt fp s5.heap) ys' σ7 H7 s7 → GI X S ip ys' σ7 H7 s7 := fun {ys' σ7 H7} g7 => by
          obtain ⟨acc7, cc7, r7, I7⟩ := g7
          refine ⟨acc7, cc7, r7, I7.pins_of fun q hq => I7.pin q ?_⟩
          rcases List.mem_cons.mp hq with hq | hq
          · exact List.mem_append_right _ (hq ▸ List.mem_cons_self)
          · exact List.mem_append_right _ (List.mem_cons_of_mem _ (List.mem_append_left _ hq))
        cases f with
        | next =>
          obtain ⟨σ7, H7, I7, n7⟩ := hs
          exact again I7 n7
        | cont =>
          obtain ⟨σ7, H7, I7, n7⟩ := hs
          exact again I7 n7
        | brk =>
          obtain ⟨σ7, H7, I7, q7⟩ := hs
          exact seg_leaf (.ok .next) (k.ok n' ys' s₀' s7 .next hn' ⟨σ7, H7, less I7, q7⟩)
        | ret v =>
          obtain ⟨v7, σ7, H7, I7, r7, q7⟩ := hs
          exact seg_leaf (.ok (.ret v)) (k.ok n' ys' s₀' s7 (.ret v) hn' ⟨v7, σ7, H7, less I7, r7, q7⟩)
  exact loop m0 n 0 ys s₀ s2 σ H2 hn w0 ⟨acc0, cc0, r0, I2⟩ st2 fun b hb => (f2 b hb).1
end
end PSW

set_option Elab.async false
set_option linter.all false
set_option maxRecDepth 100000
set_option maxHeartbeats 4000000
/-! list(zip(..)), zip of three -/
namespace PSY
open PySem PySem.Spec PyProof.Rows L2
open PySem.Sem (wp)
section
variable {prog : Program} {w : World} {A : Around} {E : Value → Shared → Prop} {s : Shared} {z TI TO i1 i2 : Addr} {fp1 fp2 : List Addr} {n1 n2 i : Nat} {P1 P2 : Nat → Value → Prop} {St1 St2 : Nat → Heap → Prop}
theorem alive_of {T : Addr} {Q : Option Obj → Shared → Prop} (h : Q (s.heap.get? T) s) : wpAny (model prog w) A (loadIfAlive T) Q E s := fun Γ p hΓ => by
  show wp _ Γ (Sem.loadIfAlive T Sem.pure) _ _ _ _
  rw [Sem.wp_loadIfAlive]
  exact (wpAny_pure h : wpAny (model prog w) A (Sem.pure (s.heap.get? T)) Q E s) Γ p hΓ
/-- zip, whose last tuple is held elsewhere -/
abbrev Zk (h : Heap) (z TI TO T : Addr) (fl : Bool) : Prop := h.get? z = some { cls := .type "zip", data := .fields #[rawInt T, .bool fl, .bool false, .ref TI, .ref TO] }
theorem held_step {T : Addr} {fl : Bool} {Q : Bool → Shared → Prop} (hz : Zk s.heap z TI TO T fl) (hT : ∃ o, s.heap.get? T = some o) (hQ : ∀ h', Zk h' z TI TO T true → Heap.SameBut z s.heap h' → Q false { s with heap := h' }) :
    wpAny (model prog w) A (Builtin.SmallTypes.ownedTupleIsFree (.ref z)) Q E s := by
  obtain ⟨o, hT⟩ := hT
  unfold Builtin.SmallTypes.ownedTupleIsFree
  refine wpAny_bind (wpAny_field hz rfl (x := rawInt T) rfl ?_)
  show wpAny _ _ (loadIfAlive ((T : Int)).toNat >>= _) _ _ _
  rw [Int.toNat_natCast]
  refine wpAny_bind (alive_of ?_)
  rw [hT]
  show wpAny _ _ (field (.ref z) 1 >>= _) _ _ _
  refine wpAny_bind (wpAny_field hz rfl (x := .bool fl) rfl ?_)
  cases fl with
  | true =>
    exact wpAny_pure (hQ _ hz (Heap.SameBut.refl ..))
  | false =>
    refine wpAny_bind (wpAny_setField_rec hz (by simp) fun h' hz' hs' => ?_)
    exact wpAny_pure (hQ _ hz' hs')
theorem zipK_item {T : Addr} {fl : Bool} {Q : Value → Shared → Prop} (S : ZipSep2 z TI TO i1 i2 fp1 fp2) (D1 : Draws prog w A i1 fp1 n1 P1 St1) (D2 : Draws prog w A i2 fp2 n2 P2 St2)
    (hz : Zk s.heap z TI TO T fl) (hT : ∃ o, s.heap.get? T = some o) (hTI : IsTupOf2 s.heap TI (.ref i1) (.ref i2)) (st1 : St1 i s.heap) (st2 : St2 i s.heap) (hlt1 : i < n1) (hlt2 : i < n2)
    (hQ : ∀ x1 x2 h' tk, P1 i x1 → P2 i x2 → Zk h' z TI TO T true → St1 (i + 1) h' → St2 (i + 1) h' → IsTupOf2 h' s.heap.objs.size x1 x2 → h'.objs.size = s.heap.objs.size + 1 →
      (∀ c o, c ≠ z → c ≠ i1 → c ≠ i2 → s.heap.get? c = some o → h'.get? c = some o) → Q (.ref s.heap.objs.size) { s with heap := h', toks := tk }) :
    wpAny (model prog w) A (Builtin.«zip.__next__» ⟨[.ref z], []⟩) (fun fin s' => ∃ v, fin = .done (.ret v) ∧ Q v s') E s := by
  obtain ⟨hp, g, d, tk0, os⟩ := s
  show wpAny _ _ (field (.ref z) 2 >>= _) _ _ _
  refine wpAny_bind (wpAny_field hz rfl (x := .bool false) rfl ?_)
  show wpAny _ _ (field (.ref z) 3 >>= _) _ _ _
  refine wpAny_bind (wpAny_field hz rfl (x := .ref TI) rfl ?_)
  refine wpAny_bind (wpAny_seqItems hTI rfl ?_)
  show wpAny _ _ (Builtin.SmallTypes.ownedTupleIsFree (.ref z) >>= _) _ _ _
  refine wpAny_bind (held_step hz hT fun g0 hz0 hs0 => ?_)
  replace hs0 : Heap.SameBut z hp g0 := hs0
  simp only [Bool.false_eq_true, if_false]
  refine wpAny_bind ?_
  rw [← Array.forIn_toList]
  simp only [List.forIn_cons, List.forIn_nil]
  refine wpAny_bind (wpAny_bind (wpAny_holding ?_))
  show wpAny _ _ (Builtin.SmallTypes.nextOf (.ref i1) >>= _) _ _ ⟨g0, g, d, tk0, os⟩
  refine wpAny_bind (D1.item i _ _ _ hlt1 (D1.over st1 hs0 S.zf1) fun x1 p1 tk1 hx1 sn1 hp1 => wpAny_pure ?_)
  replace hp1 : Heap.SameBut i1 g0 p1 := hp1
  refine wpAny_pure ?_
  refine wpAny_bind (wpAny_bind (wpAny_holding ?_))
  show wpAny _ _ (Builtin.SmallTypes.nextOf (.ref i2) >>= _) _ _ ⟨p1, g, d, tk1, os⟩
  refine wpAny_bind (D2.item i _ _ _ hlt2 (D2.over (D2.over st2 hs0 S.zf2) hp1 S.sep1_2) fun x2 p2 tk2 hx2 sn2 hp2 => wpAny_pure ?_)
  replace hp2 : Heap.SameBut i2 p1 p2 := hp2
  refine wpAny_pure (wpAny_pure ?_)
  show wpAny _ _ (newTuple [x1, x2] >>= fun v => ret v) _ _ _
  refine wpAny_bind (wpAny_newTuple ?_)
  have hsz : p2.objs.size = hp.objs.size := by rw [hp2.1, hp1.1, hs0.1]
  have up : ∀ c o, c ≠ z → c ≠ i1 → c ≠ i2 → hp.get? c = some o → (p2.push { cls := .type "tuple", data := .seq #[x1, x2] }).get? c = some o := fun c o cz c1 c2 e =>
    Heap.get?_push_of_some _ (hp2.extBut _ _ c2 (hp1.extBut _ _ c1 (hs0.extBut _ _ cz e)))
  have zz : Zk (p2.push { cls := .type "tuple", data := .seq #[x1, x2] }) z TI TO T true := Heap.get?_push_of_some _ (hp2.extBut _ _ S.zi2 (hp1.extBut _ _ S.zi1 hz0))
  have s1' : St1 (i + 1) p2 := D1.over sn1 hp2 S.sep2_1
  have hT8 : IsTupOf2 (p2.push { cls := .type "tuple", data := .seq #[x1, x2] }) p2.objs.size x1 x2 := Heap.get?_push_size _ rfl
  rw [hsz] at hT8
  refine wpAny_pure ⟨_, rfl, ?_⟩
  show Q (.ref p2.objs.size) ⟨p2.push { cls := .type "tuple", data := .seq #[x1, x2] }, g, d, tk2, os⟩
  rw [hsz]
  exact hQ x1 x2 _ tk2 hx1 hx2 zz (D1.frame _ _ _ s1' fun b _ o e => Heap.get?_push_of_some _ e) (D2.frame _ _ _ sn2 fun b _ o e => Heap.get?_push_of_some _ e) hT8 (by rw [Heap.size_push, hsz]) up
theorem zipK_end {T : Addr} {fl : Bool} {Q : PySem.Fin → Shared → Prop} (S : ZipSep2 z TI TO i1 i2 fp1 fp2) (D1 : Draws prog w A i1 fp1 n1 P1 St1) (D2 : Draws prog w A i2 fp2 n2 P2 St2)
    (hz : Zk s.heap z TI TO T fl) (hT : ∃ o, s.heap.get? T = some o) (hTI : IsTupOf2 s.heap TI (.ref i1) (.ref i2)) (st1 : St1 i s.heap) (st2 : St2 i s.heap) (hle1 : i ≤ n1) (hle2 : i ≤ n2) (hend : i = n1 ∨ i = n2)
    (hE : ∀ h' tk e, (∀ c o, c ≠ z → c ≠ i1 → c ≠ i2 → s.heap.get? c = some o → h'.get? c = some o) → (∃ o, h'.get? e = some o ∧ o.cls = .type "StopIteration") → E (.ref e) { s with heap := h', toks := tk }) :
    wpAny (model prog w) A (Builtin.«zip.__next__» ⟨[.ref z], []⟩) Q E s := by
  obtain ⟨hp, g, d, tk0, os⟩ := s
  show wpAny _ _ (field (.ref z) 2 >>= _) _ _ _
  refine wpAny_bind (wpAny_field hz rfl (x := .bool false) rfl ?_)
  show wpAny _ _ (field (.ref z) 3 >>= _) _ _ _
  refine wpAny_bind (wpAny_field hz rfl (x := .ref TI) rfl ?_)
  refine wpAny_bind (wpAny_seqItems hTI rfl ?_)
  show wpAny _ _ (Builtin.SmallTypes.ownedTupleIsFree (.ref z) >>= _) _ _ _
  refine wpAny_bind (held_step hz hT fun g0 hz0 hs0 => ?_)
  replace hs0 : Heap.SameBut z hp g0 := hs0
  simp only [Bool.false_eq_true, if_false]
  refine wpAny_bind ?_
  rw [← Array.forIn_toList]
  simp only [List.forIn_cons, List.forIn_nil]
  refine wpAny_bind (wpAny_bind (wpAny_holding ?_))
  show wpAny _ _ (Builtin.SmallTypes.nextOf (.ref i1) >>= _) _ _ ⟨g0, g, d, tk0, os⟩
  by_cases hlt1 : i < n1
  · refine wpAny_bind (D1.item i _ _ _ hlt1 (D1.over st1 hs0 S.zf1) fun x1 p1 tk1 hx1 sn1 hp1 => wpAny_pure ?_)
    replace hp1 : Heap.SameBut i1 g0 p1 := hp1
    refine wpAny_pure ?_
    have hi2 : i = n2 := by omega
    refine wpAny_bind (wpAny_bind (wpAny_holding ?_))
    show wpAny _ _ (Builtin.SmallTypes.nextOf (.ref i2) >>= _) _ _ ⟨p1, g, d, tk1, os⟩
    refine wpAny_bind (D2.done ⟨p1, g, d, tk1, os⟩ _ _ (by rw [← hi2]; exact D2.over (D2.over st2 hs0 S.zf2) hp1 S.sep1_2) fun q e hq he => ?_)
    replace hq : Heap.ExtBut i2 p1 q := hq
    exact hE q tk1 e (fun c o cz c1 c2 x => hq _ _ c2 (hp1.extBut _ _ c1 (hs0.extBut _ _ cz x))) he
  · have hi1 : i = n1 := by omega
    refine wpAny_bind (D1.done ⟨g0, g, d, tk0, os⟩ _ _ (by rw [← hi1]; exact D1.over st1 hs0 S.zf1) fun q e hq he => ?_)
    replace hq : Heap.ExtBut i1 g0 q := hq
    exact hE q tk0 e (fun c o cz c1 c2 x => hq _ _ c1 (hs0.extBut _ _ cz x)) he
theorem nextK_item {T : Addr} {fl : Bool} {Q : Option Value → Shared → Prop} (S : ZipSep2 z TI TO i1 i2 fp1 fp2) (D1 : Draws prog w A.in1 i1 fp1 n1 P1 St1) (D2 : Draws prog w A.in1 i2 fp2 n2 P2 St2)
    (hz : Zk s.heap z TI TO T fl) (hT : ∃ o, s.heap.get? T = some o) (hTI : IsTupOf2 s.heap TI (.ref i1) (.ref i2)) (st1 : St1 i s.heap) (st2 : St2 i s.heap) (hlt1 : i < n1) (hlt2 : i < n2)
    (hQ : ∀ x1 x2 h' tk, P1 i x1 → P2 i x2 → Zk h' z TI TO T true → St1 (i + 1) h' → St2 (i + 1) h' → IsTupOf2 h' s.heap.objs.size x1 x2 → h'.objs.size = s.heap.objs.size + 1 →
      (∀ c o, c ≠ z → c ≠ i1 → c ≠ i2 → s.heap.get? c = some o → h'.get? c = some o) → Q (some (.ref s.heap.objs.size)) { s with heap := h', toks := tk }) :
    wpAny (model prog w) A (pyNext (.ref z)) Q E s := by
  have hT' : s.TypeIs (.ref z) "zip" := ⟨_, hz, rfl⟩
  unfold pyNext
  exact wpAny_bind (wpAny_attempt (wpAny_callSpecial?_slot (name := Str.ofString "__next__") hT' F.slot_zip_next
    (wpAny_call_entry F.slot_zip_next hT' F.entry_zip_next
      (zipK_item S D1 D2 hz hT hTI st1 st2 hlt1 hlt2 fun x1 x2 h' tk y1 y2 b1 d1 d2 b5 b6 b7 => wpAny_pure (hQ x1 x2 h' tk y1 y2 b1 d1 d2 b5 b6 b7)) (F.args_zip_next_1 _))))
theorem nextK_end {T : Addr} {fl : Bool} {Q : Option Value → Shared → Prop} (S : ZipSep2 z TI TO i1 i2 fp1 fp2) (D1 : Draws prog w A.in1 i1 fp1 n1 P1 St1) (D2 : Draws prog w A.in1 i2 fp2 n2 P2 St2)
    (hz : Zk s.heap z TI TO T fl) (hT : ∃ o, s.heap.get? T = some o) (hTI : IsTupOf2 s.heap TI (.ref i1) (.ref i2)) (st1 : St1 i s.heap) (st2 : St2 i s.heap) (hle1 : i ≤ n1) (hle2 : i ≤ n2) (hend : i = n1 ∨ i = n2)
    (hQ : ∀ h' tk, (∀ c o, c ≠ z → c ≠ i1 → c ≠ i2 → s.heap.get? c = some o → h'.get? c = some o) → Q none { s with heap := h', toks := tk }) : wpAny (model prog w) A (pyNext (.ref z)) Q E s := by
  have hT' : s.TypeIs (.ref z) "zip" := ⟨_, hz, rfl⟩
  unfold pyNext
  refine wpAny_bind (wpAny_attempt (wpAny_callSpecial?_slot (name := Str.ofString "__next__") hT' F.slot_zip_next
    (wpAny_call_entry F.slot_zip_next hT' F.entry_zip_next (zipK_end S D1 D2 hz hT hTI st1 st2 hle1 hle2 hend fun h' tk e hk he => ?_) (F.args_zip_next_1 _))))
  obtain ⟨o, ho, hc⟩ := he
  refine wpAny_bind (wpAny_isInstance (T := "StopIteration") (b := true) ⟨o, ho, hc⟩ isSubtype_stop ?_)
  exact wpAny_pure (hQ _ _ hk)
/-- zip as it stands: nothing handed out, or the last tuple is held elsewhere -/
def ZAt (h : Heap) (z TI TO : Addr) : Prop := (IsZip h z TI TO .none ∧ ∃ a b, IsTupOf2 h TO a b) ∨ ∃ T fl, Zk h z TI TO T fl ∧ ∃ o, h.get? T = some o
theorem next_any {Q : Option Value → Shared → Prop} (S : ZipSep2 z TI TO i1 i2 fp1 fp2) (D1 : Draws prog w A.in1 i1 fp1 n1 P1 St1) (D2 : Draws prog w A.in1 i2 fp2 n2 P2 St2)
    (za : ZAt s.heap z TI TO) (hTI : IsTupOf2 s.heap TI (.ref i1) (.ref i2)) (st1 : St1 i s.heap) (st2 : St2 i s.heap) (hlt1 : i < n1) (hlt2 : i < n2)
    (hQ : ∀ x1 x2 h' tk, P1 i x1 → P2 i x2 → ZAt h' z TI TO → St1 (i + 1) h' → St2 (i + 1) h' → IsTupOf2 h' s.heap.objs.size x1 x2 →
      (∀ c o, c ≠ z → c ≠ TO → c ≠ i1 → c ≠ i2 → s.heap.get? c = some o → h'.get? c = some o) → Q (some (.ref s.heap.objs.size)) { s with heap := h', toks := tk }) :
    wpAny (model prog w) A (pyNext (.ref z)) Q E s := by
  rcases za with ⟨hz, a, b, hTO⟩ | ⟨T, fl, hz, hT⟩
  · exact wpAny_pyNext_zipD2_item S D1 D2 hz hTI hTO st1 st2 hlt1 hlt2 fun x1 x2 h' tk y1 y2 b1 b2 d1 d2 b5 b6 b7 => hQ x1 x2 h' tk y1 y2 (.inr ⟨_, false, b1, _, b5⟩) d1 d2 b5 b7
  · refine nextK_item S D1 D2 hz hT hTI st1 st2 hlt1 hlt2 fun x1 x2 h' tk y1 y2 b1 d1 d2 b5 b6 b7 => hQ x1 x2 h' tk y1 y2 (.inr ⟨T, true, b1, ?_⟩) d1 d2 b5 fun c o c1 _ c3 c4 e => b7 c o c1 c3 c4 e
    by_cases e1 : T = z
    · exact ⟨_, by rw [e1]; exact b1⟩
    by_cases e2 : T = i1
    · exact e2 ▸ D1.live _ _ d1
    by_cases e3 : T = i2
    · exact e3 ▸ D2.live _ _ d2
    obtain ⟨o, ho⟩ := hT
    exact ⟨o, b7 _ _ e1 e2 e3 ho⟩
theorem end_any {Q : Option Value → Shared → Prop} (S : ZipSep2 z TI TO i1 i2 fp1 fp2) (D1 : Draws prog w A.in1 i1 fp1 n1 P1 St1) (D2 : Draws prog w A.in1 i2 fp2 n2 P2 St2)
    (za : ZAt s.heap z TI TO) (hTI : IsTupOf2 s.heap TI (.ref i1) (.ref i2)) (st1 : St1 i s.heap) (st2 : St2 i s.heap) (hle1 : i ≤ n1) (hle2 : i ≤ n2) (hend : i = n1 ∨ i = n2)
    (hQ : ∀ h' tk, (∀ c o, c ≠ z → c ≠ TO → c ≠ i1 → c ≠ i2 → s.heap.get? c = some o → h'.get? c = some o) → Q none { s with heap := h', toks := tk }) : wpAny (model prog w) A (pyNext (.ref z)) Q E s := by
  rcases za with ⟨hz, a, b, hTO⟩ | ⟨T, fl, hz, hT⟩
  · exact wpAny_pyNext_zipD2_end S D1 D2 hz hTI hTO st1 st2 hle1 hle2 hend hQ
  · exact nextK_end S D1 D2 hz hT hTI st1 st2 hle1 hle2 hend fun h' tk b7 => hQ h' tk fun c o c1 _ c3 c4 e => b7 c o c1 c3 c4 e
end
section
variable {X : Cx} {pins : List (Addr × Obj)} {σ : L2.St} {A : Around} {R : Result → Shared → Prop} {S z TI TO i1 i2 : Addr} {fp1 fp2 : List Addr} {n : Nat} {St1 St2 : Nat → Heap → Prop} {xs ys : List V} {its1 its2 : List Value} {H0 : Hp} {res : Value}
theorem loop_zip (Sp : ZipSep2 z TI TO i1 i2 fp1 fp2) (D1 : Draws X.prog X.w A.in1.in1 i1 fp1 its1.toArray.size (fun i v => its1.toArray[i]? = some v) St1) (D2 : Draws X.prog X.w A.in1.in1 i2 fp2 its2.toArray.size (fun i v => its2.toArray[i]? = some v) St2)
    (r1 : Vals xs its1) (r2 : Vals ys its2) (l1 : xs.length = n) (l2 : ys.length = n) (hn : n ≤ sizeLine) (hS : S ∉ z :: TI :: TO :: (fp1 ++ fp2)) :
    ∀ (k i : Nat) (s : Shared) (H : Hp) (ps : List Addr), n - i = k → i ≤ n → Inv X pins σ H s → (∀ b ∈ [z, TI, TO, i1, i2], FpOk X pins H b) → (∀ b ∈ [z, TI, TO, i1, i2], b < s.heap.objs.size) → ZAt s.heap z TI TO → IsTupOf2 s.heap TI (.ref i1) (.ref i2) → St1 i s.heap → St2 i s.heap →
    H S = some (.lst (ps.map V.ref)) → ps.length = i → (∀ (j : Nat) p, ps[j]? = some p → ∃ x y, xs[j]? = some x ∧ ys[j]? = some y ∧ H p = some (.tup [x, y])) → (∀ b o, b ≠ S → H0 b = some o → H b = some o) →
    (∀ (s' : Shared) (H' : Hp) (ps' : List Addr), Inv X pins σ H' s' → H' S = some (.lst (ps'.map V.ref)) → ps'.length = n → (∀ (j : Nat) p, ps'[j]? = some p → ∃ x y, xs[j]? = some x ∧ ys[j]? = some y ∧ H' p = some (.tup [x, y])) → (∀ b o, b ≠ S → H0 b = some o → H' b = some o) → R (.ok (.ret res)) s') →
    codeAny (model X.prog X.w) A (.builtin "list.extend.loop" ⟨[.ref S, .ref z, res], []⟩) R s := by
  simp only [List.mem_cons, List.mem_append, not_or] at hS
  obtain ⟨hSz, hSTI, hSTO, hS1, hS2⟩ := hS
  have out : ∀ c, c ∉ [z, TI, TO, i1, i2] → c ≠ z ∧ c ≠ TO ∧ c ≠ i1 ∧ c ≠ i2 := fun c n => by
    simp only [List.mem_cons, List.not_mem_nil, or_false, not_or] at n
    exact ⟨n.1, n.2.2.1, n.2.2.2.1, n.2.2.2.2⟩
  have SO : S ∉ [z, TI, TO, i1, i2] := by
    simp only [List.mem_cons, List.not_mem_nil, or_false, not_or]
    exact ⟨hSz, hSTI, hSTO, fun e => hS1 (e ▸ Sp.mem1), fun e => hS2 (e ▸ Sp.mem2)⟩
  have z1 : its1.toArray.size = n := by rw [List.size_toArray, ← r1.length]; exact l1
  have z2 : its2.toArray.size = n := by rw [List.size_toArray, ← r2.length]; exact l2
  intro k
  induction k with
  | zero =>
    intro i s H ps hk hi I fp low za hTI st1 st2 hS lp al kp fin
    have hin : i = n := by omega
    refine codeAny_builtin F.entry_extend_loop ?_
    rw [Around.under_plainId F.plain_extend_loop _]
    show wpAny _ A.in1 (pyNext (.ref z) >>= _) _ _ s
    refine wpAny_bind (end_any Sp D1 D2 za hTI st1 st2 (by omega) (by omega) (.inl (by omega)) fun h' tk kk => ?_)
    refine wpAny_pure (fin _ H ps (I.turnedL (t' := tk) (ch := [z, TI, TO, i1, i2]) (fun c o n q => kk c o (out c n).1 (out c n).2.1 (out c n).2.2.1 (out c n).2.2.2 q) fp) hS (by omega) al kp)
  | succ k ih =>
    intro i s H ps hk hi I fp low za hTI st1 st2 hS lp al kp fin
    have hlt : i < n := by omega
    refine codeAny_builtin F.entry_extend_loop ?_
    rw [Around.under_plainId F.plain_extend_loop _]
    show wpAny _ A.in1 (pyNext (.ref z) >>= _) _ _ s
    refine wpAny_bind (next_any Sp D1 D2 za hTI st1 st2 (by omega) (by omega) fun x1 x2 h' tk y1 y2 za' st1' st2' hT kk => ?_)
    have hx : xs[i]? = some xs[i] := List.getElem?_eq_getElem (by omega)
    have hy : ys[i]? = some ys[i] := List.getElem?_eq_getElem (by omega)
    obtain ⟨u1, hu1, ru1⟩ := r1.get hx
    obtain ⟨u2, hu2, ru2⟩ := r2.get hy
    have e1 : u1 = x1 := Option.some.inj (hu1.symm.trans (by simpa using y1))
    have e2 : u2 = x2 := Option.some.inj (hu2.symm.trans (by simpa using y2))
    subst e1 e2
    have new : ObjOk X.prog X.w (upd H s.heap.objs.size (.tup [xs[i], ys[i]])) h' s.heap.objs.size (.tup [xs[i], ys[i]]) :=
      ⟨by show 2 ≤ sizeLine; decide, _, .cons ru1 (.cons ru2 .nil), ⟨_, hT, rfl, _, rfl⟩⟩
    have J := I.turnedNew (t' := tk) (ch := [z, TI, TO, i1, i2]) (fun c o n q => kk c o (out c n).1 (out c n).2.1 (out c n).2.2.1 (out c n).2.2.2 q) fp (Nat.le_refl _) new
    have nT : H s.heap.objs.size = none := I.hok.fresh (Nat.le_refl _)
    have SneT : S ≠ s.heap.objs.size := ne_of_none hS nT
    have hS1' : upd H s.heap.objs.size (.tup [xs[i], ys[i]]) S = some (.lst (ps.map V.ref)) := (upd_ne SneT).trans hS
    obtain ⟨hz, its, nn, rv, hl, e⟩ := J.lstM hS1'
    have lits : its.length = i := by rw [← hl, List.length_map, lp]
    replace e : h'.get? S = some { cls := .type "list", data := .seq its.toArray nn } := e
    have J2 := J.lset (t' := tk) (its' := its ++ [.ref s.heap.objs.size]) (f := (·.push (.ref s.heap.objs.size))) hS1' e (by simp) (ys := ps.map V.ref ++ [.ref s.heap.objs.size]) (rv.append (.cons (show RelV (V.ref s.heap.objs.size) (Value.ref s.heap.objs.size) from rfl) .nil)) (by rw [List.length_append, List.length_map, List.length_singleton]; omega)
    have oth : ∀ b o, b ≠ S → h'.get? b = some o → (h'.update S (Obj.mapSeq (·.push (.ref s.heap.objs.size)))).get? b = some o := fun b o hb q => (Heap.get?_update_other _ _ (Ne.symm hb)).trans q
    have selfS := Heap.get?_update_self (Obj.mapSeq (·.push (.ref s.heap.objs.size))) e rfl
    have bT : s.heap.objs.size < h'.objs.size := Heap.lt_size hT
    show wpAny _ A.in1 (updateSeq S (·.push (.ref s.heap.objs.size)) >>= _) _ _ _
    refine wpAny_bind ?_
    refine wpAny_updateSeq e rfl (wpAny_pure ⟨plainId_quiet F.plain_extend_loop _, ih (i + 1) _ _ (ps ++ [s.heap.objs.size]) (by omega) hlt J2 (fun b hb => ?_) (fun b hb => ?_) ?_ (oth _ _ (fun w => hSTI w.symm) ?_) (D1.frame _ _ _ st1' fun b hb o q => oth b o (fun w => hS1 (w ▸ hb)) q) (D2.frame _ _ _ st2' fun b hb o q => oth b o (fun w => hS2 (w ▸ hb)) q) ?_ (by rw [List.length_append, lp]; rfl) (fun j p hp => ?_) (fun b o nb q => ?_) fin⟩) ?_ ?_
    · obtain ⟨g0, g1, g2, g3, g4, g5⟩ := fp b hb
      refine ⟨?_, g1, g2, g3, g4, g5⟩
      rw [upd_ne (fun w => SO (by rw [← w]; exact hb)), upd_ne (Nat.ne_of_lt (low b hb))]
      exact g0
    · show b < (h'.update S (Obj.mapSeq (·.push (.ref s.heap.objs.size)))).objs.size
      rw [Heap.size_update]
      exact Nat.lt_trans (low b hb) bT
    · rcases za' with ⟨hz', a, b, hTO⟩ | ⟨T, fl, hz', o, hT'⟩
      · exact .inl ⟨oth _ _ (fun w => hSz w.symm) hz', a, b, oth _ _ (fun w => hSTO w.symm) hTO⟩
      · refine .inr ⟨T, fl, oth _ _ (fun w => hSz w.symm) hz', ?_⟩
        by_cases w : T = S
        · exact ⟨_, by rw [w]; exact selfS⟩
        · exact ⟨o, oth _ _ w hT'⟩
    · exact kk _ _ Sp.TIz Sp.TITO Sp.TIi1 Sp.TIi2 hTI
    · rw [upd_same, List.map_append]
      rfl
    · by_cases lj : j < ps.length
      · rw [List.getElem?_append_left lj] at hp
        obtain ⟨x, y, q1, q2, q3⟩ := al j p hp
        refine ⟨x, y, q1, q2, ?_⟩
        have npS : p ≠ S := fun w => by
          rw [w, hS] at q3
          cases q3
        rw [upd_ne npS, upd_ne (ne_of_none q3 nT)]
        exact q3
      · rw [List.getElem?_append_right (Nat.le_of_not_lt lj)] at hp
        have j0 : j - ps.length = 0 := Nat.lt_one_iff.mp (List.getElem?_eq_some_iff.mp hp).1
        rw [j0] at hp
        obtain rfl : s.heap.objs.size = p := Option.some.inj hp
        have ej : j = i := (Nat.le_antisymm (Nat.sub_eq_zero_iff_le.mp j0) (Nat.le_of_not_lt lj)).trans lp
        rw [ej]
        refine ⟨_, _, hx, hy, ?_⟩
        rw [upd_ne SneT.symm, upd_same]
    · have q2 := kp b o nb q
      rw [upd_ne nb, upd_ne (ne_of_none q2 nT)]
      exact q2
    · rw [List.size_toArray]
      omega
    · show (its.toArray.push _).size ≤ sizeLine + 1
      rw [Array.size_push, List.size_toArray]
      omega
end
theorem nolen_zip : typeLookup (.type "zip") "__len__" = pure none := by rw [typeLookup_type, builtinLookup_eq_fast]; kernel_rfl
theorem nohint_zip : typeLookup (.type "zip") "__length_hint__" = pure none := by rw [typeLookup_type, builtinLookup_eq_fast]; kernel_rfl
section
variable {prog : Program} {w : World} {A : Around} {E : Value → Shared → Prop} {s : Shared} {z TI TO : Addr}
theorem hint_zip {Q : Bool → Shared → Prop} (hz : IsZip s.heap z TI TO .none) (h : Q true s) : wpAny (model prog w) A (Builtin.List.listLengthHint (.ref z)) Q E s := by
  have hT : s.TypeIs (.ref z) "zip" := ⟨_, hz, rfl⟩
  unfold Builtin.List.listLengthHint
  refine wpAny_bind (wpAny_specialOf hT nolen_zip ?_)
  show wpAny _ A (specialOf (Value.ref z) (Str.ofString "__length_hint__") >>= _) _ _ _
  refine wpAny_bind (wpAny_specialOf hT nohint_zip ?_)
  exact wpAny_pure h
theorem ext_zip {R : Result → Shared → Prop} (hz : IsZip s.heap z TI TO .none) (S : Addr) (hSz : S ≠ z) (res : Value) (c₀ : Nat) (hS : s.heap.get? S = some { cls := .type "list", data := .seq #[] c₀ })
    (go : ∀ h' c', h'.get? S = some { cls := .type "list", data := .seq #[] c' } → (∀ b o, b ≠ S → s.heap.get? b = some o → h'.get? b = some o) → codeAny (model prog w) A (.builtin "list.extend.loop" ⟨[.ref S, .ref z, res], []⟩) R { s with heap := h' }) :
    wpAny (model prog w) A.in1 (Builtin.List.listExtendWith (.ref S) (.ref z) res)
      (fun fin s' => match fin with | .done f => R (.ok f) s' | .again c' => c'.quiet = true ∧ codeAny (model prog w) A c' R s') (fun e s' => R (.error e) s') s := by
  have hT : s.TypeIs (.ref z) "zip" := ⟨_, hz, rfl⟩
  have h1 : Builtin.List.listSameRef (.ref S) (.ref z) = false := by simp [Builtin.List.listSameRef, hSz]
  unfold Builtin.List.listExtendWith
  refine wpAny_bind (wpAny_typeOf hT ?_)
  rw [if_neg (by rw [h1]; decide)]
  refine wpAny_bind (wpAny_pyIter_zip hz ?_)
  refine wpAny_bind (wpAny_holding (hint_zip hz ?_))
  rw [if_pos (by rw [Bool.true_or])]
  refine wpAny_bind (wpAny_rule ?_)
  refine wpAny_bind ?_
  show wpAny _ _ (updateSeq S (·.push .none) >>= fun _ => updateSeq S (·.pop)) _ _ _
  refine wpAny_bind (wpAny_updateSeq hS rfl ?_)
  have hS₂ := Heap.get?_update_self (Obj.mapSeq (·.push Value.none)) hS rfl
  refine wpAny_updateSeq (hz := by seq_fits) hS₂ rfl ?_
  have hS₃ := Heap.get?_update_self (Obj.mapSeq (·.pop)) hS₂ rfl
  refine wpAny_pure ⟨plainId_quiet F.plain_extend_loop _, go _ _ hS₃ fun b o hb e => ?_⟩
  exact (Heap.get?_update_other _ _ (Ne.symm hb)).trans ((Heap.get?_update_other _ _ (Ne.symm hb)).trans e)
theorem init_zip {R : Result → Shared → Prop} (hz : IsZip s.heap z TI TO .none) (S : Addr) (hSz : S ≠ z) (hS : s.heap.get? S = some { cls := .type "list", data := .seq #[] })
    (go : ∀ h' c', h'.get? S = some { cls := .type "list", data := .seq #[] c' } → (∀ b o, b ≠ S → s.heap.get? b = some o → h'.get? b = some o) → codeAny (model prog w) A (.builtin "list.extend.loop" ⟨[.ref S, .ref z, .none], []⟩) R { s with heap := h' }) :
    wpAny (model prog w) A.in1 (Builtin.«list.__init__» ⟨[.ref S, .ref z], []⟩)
      (fun fin s' => match fin with | .done f => R (.ok f) s' | .again c' => c'.quiet = true ∧ codeAny (model prog w) A c' R s') (fun e s' => R (.error e) s') s := by
  show wpAny _ _ (do let old ← Builtin.List.listItems (.ref S); Builtin.List.listUpdate (.ref S) (fun _ => #[]); letGo old.toList.reverse; Builtin.List.listExtendWith (.ref S) (.ref z) .none) _ _ s
  refine wpAny_bind ?_
  unfold Builtin.List.listItems
  refine wpAny_bind (wpAny_seqItems hS rfl (wpAny_pure ?_))
  show wpAny _ _ (updateSeq S (fun _ => #[]) >>= fun _ => letGo (#[] : Array Value).toList.reverse >>= fun _ => Builtin.List.listExtendWith (.ref S) (.ref z) .none) _ _ s
  refine wpAny_bind (wpAny_updateSeq hS rfl ?_)
  have hS₂ := Heap.get?_update_self (Obj.mapSeq (fun _ => (#[] : Array Value))) hS rfl
  have oth : ∀ b o, b ≠ S → s.heap.get? b = some o → (s.heap.update S (Obj.mapSeq (fun _ => (#[] : Array Value)))).get? b = some o :=
    fun b o hb e => (Heap.get?_update_other _ _ (Ne.symm hb)).trans e
  refine wpAny_bind (wpAny_letGo ?_)
  exact ext_zip (oth _ _ hSz.symm hz) S hSz .none _ hS₂ fun h' c' h1 h2 => go h' c' h1 fun b o hb e => h2 b o hb (oth b o hb e)
theorem call_list_zip {Q : Value → Shared → Prop} (hz : IsZip s.heap z TI TO .none)
    (go : ∀ h' c', h'.get? s.heap.objs.size = some { cls := .type "list", data := .seq #[] c' } → (∀ b o, s.heap.get? b = some o → h'.get? b = some o) →
      codeAny (model prog w) A.in1 (.builtin "list.extend.loop" ⟨[.ref s.heap.objs.size, .ref z, .none], []⟩) (fun r s' => r = .ok (.ret .none) ∧ Q (.ref s.heap.objs.size) s') { s with heap := h' }) :
    wpAny (model prog w) A (call (.type "list") [.ref z]) Q E s := by
  refine callType_codes (Q₁ := fun obj s₁ => obj = .ref s.heap.objs.size ∧ s₁ = { s with heap := s.heap.push { cls := .type "list", data := .seq #[] } }) PySem.F.called_list (PySem.F.typeCall_list_1 _) PySem.F.entry_list_init
    (code_list_new _ ⟨rfl, rfl⟩) fun obj s₁ h₁ => ?_
  obtain ⟨rfl, rfl⟩ := h₁
  have hS : (s.heap.push { cls := .type "list", data := .seq #[] }).get? s.heap.objs.size = some { cls := .type "list", data := .seq #[] } := Heap.get?_push_size _ rfl
  refine ⟨⟨_, hS, rfl⟩, PySem.F.args_list_init_2 _ _, init_zip (A := A.in1) (Heap.get?_push_of_some _ hz) _ (Nat.ne_of_gt (Heap.lt_size hz)) hS fun h' c' h1 h2 => ?_⟩
  have g := go h' c' h1 fun b o e => h2 b o (Nat.ne_of_lt (Heap.lt_size e)) (Heap.get?_push_of_some _ e)
  refine codeAny_mono g fun r s' hr => ?_
  obtain ⟨e, q⟩ := hr
  subst e
  exact ⟨rfl, q⟩
end
/-- list(zip(a list, a tuple)), both of one length: a new list of new tuples -/
def tListZip (K : PySem.W.Frag) (ta : TA) : TE := fun σ H Q => ta σ H fun vs H1 => ∃ a b xs ys, vs = [.ref a, .ref b] ∧ SqL K H1 a xs ∧ SqT K H1 b ys ∧ ys.length = xs.length ∧ xs.length ≤ sizeLine ∧
  ∀ (q : Addr) (H' : Hp) (ps : List Addr), H1 q = none → (∀ b o, H1 b = some o → H' b = some o) → H' q = some (.lst (ps.map V.ref)) → ps.length = xs.length → (∀ (j : Nat) p, ps[j]? = some p → ∃ x y, xs[j]? = some x ∧ ys[j]? = some y ∧ H' p = some (.tup [x, y])) → Q (.ref q) H'
section
variable {X : Cx}
theorem pe_listZip {e e2 : Expr} {ta : TA} {p p2 pos pos2 : Pos} (hc : X.calm = true) (hg : Gl X "list") (hm : X.mg "list" = none) (hg2 : Gl X "zip") (hm2 : X.mg "zip" = none) (ha : PA X [e, e2] ta)
    (hs : starEach [e, e2] X.env = (false, eval e X.env) :: starEach [e2] X.env := by rfl) (hpl : (backTo pos2 (starEach [e2] X.env)).any (·.1) = false := by rfl)
    (hs2 : starEach [.Call (.Name "zip" p2) [e, e2] [] pos2] X.env = (false, eval (.Call (.Name "zip" p2) [e, e2] [] pos2) X.env) :: starEach [] X.env := by rfl) :
    PE X (.Call (.Name "list" p) [.Call (.Name "zip" p2) [e, e2] [] pos2] [] pos) (tListZip X.K ta) := by
  refine ⟨fun pins s σ H Q I h => ?_⟩
  refine Call_ (ld_blt I hg hm boot_list (PyProof.Rows.callWith_type1 (args_cons (Call_ (ld_blt I hg2 hm2 PyProof.Rows.boot_zip (PyProof.Rows.callWith_type1 (thn (ha.run pos2 pins s σ H _ I h) fun us s1 ⟨vs, H1, I1, r1, q1⟩ => ?_) hs hpl))) hs2) hs2 rfl))
  obtain ⟨a, b, xs, ys, ev, hqx, hqy, le, hn, q⟩ := q1
  subst ev
  obtain ⟨u1, u2, rfl, rx, ry⟩ := vals2 r1
  obtain rfl : u1 = Value.ref a := rx
  obtain rfl : u2 = Value.ref b := ry
  obtain ⟨its1, rv1, p1, hz1⟩ := I1.list hqx
  obtain ⟨its2, rv2, p2', hz2⟩ := I1.tuple hqy
  refine zip_begins2 (begins_list a its1.toArray) (begins_tuple b its2.toArray) p1.isList p2' fun h' hz hTI hTO g1 g2 hsz kk => args_nil ?_
  have hd := I1.ok.hd hc
  have I2 : Inv X pins σ H1 { s1 with heap := h' } := I1.kept (t' := s1.toks) kk
  refine call_list_zip (s := { s1 with heap := h' }) hz fun h2 c2 hS2 k2 => ?_
  replace hS2 : h2.get? h'.objs.size = some { cls := .type "list", data := .seq #[] c2 } := hS2
  have I3 : Inv X pins σ (upd H1 h'.objs.size (.lst [])) { s1 with heap := h2 } := I2.laid (t' := s1.toks) k2 (Nat.le_refl _) ⟨Nat.zero_le _, [], c2, .nil, hS2⟩
  obtain ⟨oa, hoa, _⟩ := id p1.isList
  obtain ⟨ob, hob, _⟩ := id p2'
  have la := Heap.lt_size hoa
  have lb := Heap.lt_size hob
  have nS : H1 h'.objs.size = none := I1.hok.fresh (by rw [hsz]; omega)
  have lS := Heap.lt_size hS2
  have five : ∀ c ∈ [s1.heap.objs.size + 4, s1.heap.objs.size + 2, s1.heap.objs.size + 3, s1.heap.objs.size, s1.heap.objs.size + 1], s1.heap.objs.size ≤ c ∧ c < s1.heap.objs.size + 5 := fun c hc => by
    simp only [List.mem_cons, List.not_mem_nil, or_false] at hc
    omega
  refine loop_zip (A := X.A.in1) (H0 := H1) (n := xs.length) (zip_sep2 (fp1 := [a]) (fp2 := [b]) (fun c hc => by rw [List.mem_singleton.mp hc]; exact la) (fun c hc => by rw [List.mem_singleton.mp hc]; exact lb))
    (Draws.list (A := X.A.in1.in1.in1) hd s1.heap.objs.size a (Nat.ne_of_lt la) its1.toArray) (Draws.tuple (A := X.A.in1.in1.in1) hd (s1.heap.objs.size + 1) b (Nat.ne_of_lt (Nat.lt_succ_of_lt lb)) its2.toArray) rv1 rv2 rfl le hn ?_ xs.length 0 _ _ [] (Nat.sub_zero _) (Nat.zero_le _) I3 (fun c hc => ?_) (fun c hc => ?_) (.inl ⟨k2 _ _ hz, _, _, k2 _ _ hTO⟩) (k2 _ _ hTI)
    ⟨⟨_, k2 _ _ g1, rfl, rfl⟩, (p1.isList.at fun o e => k2 _ _ (kk _ _ e))⟩ ⟨⟨_, k2 _ _ g2, rfl, rfl⟩, (show h2.IsTuple b its2.toArray from let ⟨o, e, r⟩ := p2'; ⟨o, k2 _ _ (kk _ _ e), r⟩)⟩ upd_same rfl (fun (j : Nat) (d : Addr) (e : ([] : List Addr)[j]? = some d) => absurd e (by simp)) (fun c o nb e => (upd_ne nb).trans e)
    fun s' H' ps' J hS' lp al kp => ⟨rfl, .ref h'.objs.size, H', J, rfl, q _ H' ps' nS (fun c o e => kp c o (ne_of_none e nS) e) hS' lp al⟩
  · have gt : ∀ c, c < s1.heap.objs.size + 5 → ¬ h'.objs.size = c := fun c l e => by
      rw [← hsz, e] at l
      exact Nat.lt_irrefl _ l
    simp only [List.mem_cons, List.mem_append, List.not_mem_nil, or_false, not_or]
    exact ⟨gt _ (Nat.add_lt_add_left (by decide) _), gt _ (Nat.add_lt_add_left (by decide) _), gt _ (Nat.add_lt_add_left (by decide) _), ⟨gt _ (Nat.lt_add_of_pos_right (by decide)), gt _ (Nat.lt_trans la (Nat.lt_add_of_pos_right (by decide)))⟩, gt _ (Nat.add_lt_add_left (by decide) _), gt _ (Nat.lt_trans lb (Nat.lt_add_of_pos_right (by decide)))⟩
  · obtain ⟨h1, h3⟩ := five c hc
    rw [← hsz] at h3
    exact I1.fpOk h1 ((upd_ne (Nat.ne_of_lt h3)).trans (I1.hok.fresh h1))
  · obtain ⟨h1, h3⟩ := five c hc
    rw [← hsz] at h3
    exact Nat.lt_trans h3 lS
end
end PSY

set_option Elab.async false
set_option linter.all false
set_option maxRecDepth 100000
set_option maxHeartbeats 4000000
/-! zip of three tuples -/
namespace PSY
open PySem PySem.Spec PyProof.Rows L2
def Itz3 (K : PySem.W.Frag) (a b c : Addr) (xs ys us : List V) : It :=
  ⟨fun i H => i < xs.length ∧ SqT K H a xs ∧ SqT K H b ys ∧ SqT K H c us, fun i H v H' => ∃ T x y u, v = .ref T ∧ H T = none ∧ H' = upd H T (.tup [x, y, u]) ∧ xs[i]? = some x ∧ ys[i]? = some y ∧ us[i]? = some u, fun i H => i = xs.length ∧ SqT K H a xs ∧ SqT K H b ys ∧ SqT K H c us⟩
theorem turn_zip3 {P : Program} {w : World} {K : PySem.W.Frag} {tg : List Expr} {m : Nat} {tp : Pos} {xs ys us : List V} {a b c z TI TO i1 i2 i3 : Addr} (Sp : ZipSep3 z TI TO i1 i2 i3 [i1, a] [i2, b] [i3, c]) (na : a ≠ i1) (nb : b ≠ i2) (nc : c ≠ i3) (l2 : ys.length = xs.length) (l3 : us.length = xs.length) :
    Turn P w K (.Tuple tg m tp) (Itz3 K a b c xs ys us) [z, TI, TO, i1, i2, i3] z (fun i h => IsZip h z TI TO .none ∧ IsTupOf3 h TI (.ref i1) (.ref i2) (.ref i3) ∧ (∃ a1 a2 a3, IsTupOf3 h TO a1 a2 a3) ∧ h.IsTupleIter i1 a i ∧ h.IsTupleIter i2 b i ∧ h.IsTupleIter i3 c i) where
  mem := by simp
  obj := fun i h st d hd => by
    obtain ⟨hz, hTI, ⟨a1, a2, a3, hTO⟩, ⟨o1, e1, _, d1⟩, ⟨o2, e2, _, d2⟩, ⟨o3, e3, _, d3⟩⟩ := st
    have which : d = z ∨ d = TI ∨ d = TO ∨ d = i1 ∨ d = i2 ∨ d = i3 := by simpa using hd
    rcases which with rfl | rfl | rfl | rfl | rfl | rfl
    · exact ⟨_, hz, fun v q => nomatch q⟩
    · exact ⟨_, hTI, fun v q => nomatch q⟩
    · exact ⟨_, hTO, fun v q => nomatch q⟩
    · exact ⟨o1, e1, fun v q => by rw [d1] at q; cases q⟩
    · exact ⟨o2, e2, fun v q => by rw [d2] at q; cases q⟩
    · exact ⟨o3, e3, fun v q => by rw [d3] at q; cases q⟩
  keep := fun i h h' st k => by
    obtain ⟨hz, hTI, ⟨a1, a2, a3, hTO⟩, h1, h2, h3⟩ := st
    exact ⟨k z (by simp) _ hz, k TI (by simp) _ hTI, ⟨a1, a2, a3, k TO (by simp) _ hTO⟩, h1.at fun o q => k i1 (by simp) o q, h2.at fun o q => k i2 (by simp) o q, h3.at fun o q => k i3 (by simp) o q⟩
  item := by
    intro X e1 e2 e3 calm i pins s σ H E I fp st go
    subst e1 e2 e3
    obtain ⟨lt, qa, qb, qc⟩ := go
    obtain ⟨hz, hTI, hTO, h1, h2, h3⟩ := st
    obtain ⟨its1, rv1, p1, hz1⟩ := I.tuple qa
    obtain ⟨its2, rv2, p2, hz2⟩ := I.tuple qb
    obtain ⟨its3, rv3, p3, hz3⟩ := I.tuple qc
    have hd := I.ok.hd calm
    have z1 : its1.toArray.size = xs.length := by rw [List.size_toArray, ← rv1.length]
    have z2 : its2.toArray.size = xs.length := by rw [List.size_toArray, ← rv2.length, l2]
    have z3 : its3.toArray.size = xs.length := by rw [List.size_toArray, ← rv3.length, l3]
    have W := GoesN.zip3 (prog := X.prog) (w := X.w) (A := X.A) (elts := tg) (x1 := m) (pos := tp) Sp (Draws.tuple (A := X.A.in1) hd i1 a na its1.toArray) (Draws.tuple (A := X.A.in1) hd i2 b nb its2.toArray) (Draws.tuple (A := X.A.in1) hd i3 c nc its3.toArray)
    have hx : xs[i]? = some xs[i] := List.getElem?_eq_getElem lt
    have hy : ys[i]? = some ys[i] := List.getElem?_eq_getElem (by omega)
    have hu : us[i]? = some us[i] := List.getElem?_eq_getElem (by omega)
    obtain ⟨w1, hw1, rw1⟩ := rv1.get hx
    obtain ⟨w2, hw2, rw2⟩ := rv2.get hy
    obtain ⟨w3, hw3, rw3⟩ := rv3.get hu
    have low : ∀ d ∈ [z, TI, TO, i1, i2, i3], d < s.heap.objs.size := fun d hd => by
      obtain ⟨a1, a2, a3, hTO⟩ := hTO
      obtain ⟨o1, q1, _⟩ := h1
      obtain ⟨o2, q2, _⟩ := h2
      obtain ⟨o3, q3, _⟩ := h3
      have which : d = z ∨ d = TI ∨ d = TO ∨ d = i1 ∨ d = i2 ∨ d = i3 := by simpa using hd
      rcases which with rfl | rfl | rfl | rfl | rfl | rfl
      · exact Heap.lt_size hz
      · exact Heap.lt_size hTI
      · exact Heap.lt_size hTO
      · exact Heap.lt_size q1
      · exact Heap.lt_size q2
      · exact Heap.lt_size q3
    refine W.goes i s _ E (by rw [z1, z2, z3, Nat.min_self, Nat.min_self]; exact lt) ⟨hz, hTI, hTO, ⟨h1, p1⟩, ⟨h2, p2⟩, ⟨h3, p3⟩⟩ fun v h' tk hY st' kk _ => ?_
    obtain ⟨T, x, y, u, rfl, hnew, hp1, hp2, hp3, hT⟩ := hY
    obtain ⟨hz', hTI', hTO', ⟨h1', _⟩, ⟨h2', _⟩, ⟨h3', _⟩⟩ := st'
    have e1 : w1 = x := Option.some.inj (hw1.symm.trans (by simpa using hp1))
    have e2 : w2 = y := Option.some.inj (hw2.symm.trans (by simpa using hp2))
    have e3 : w3 = u := Option.some.inj (hw3.symm.trans (by simpa using hp3))
    subst e1 e2 e3
    have new : ObjOk X.prog X.w (upd H T (.tup [xs[i], ys[i], us[i]])) h' T (.tup [xs[i], ys[i], us[i]]) :=
      ⟨by show 3 ≤ sizeLine; decide, _, .cons rw1 (.cons rw2 (.cons rw3 .nil)), hT⟩
    have J := I.turnedNew (t' := tk) (ch := [z, TI, TO, i1, i2, i3]) (fun d o n q => kk d o (fun m => n (by
      simp only [List.mem_cons, List.not_mem_nil, or_false] at m ⊢
      rcases m with m | m | m | m | m
      · exact .inl m
      · exact .inr (.inr (.inl m))
      · exact .inr (.inr (.inr (.inl m)))
      · exact .inr (.inr (.inr (.inr (.inl m))))
      · exact .inr (.inr (.inr (.inr (.inr m)))))) q) fp hnew new
    refine ⟨.ref T, _, J, rfl, ⟨T, _, _, _, rfl, I.hok.fresh hnew, rfl, hx, hy, hu⟩, ⟨hz', hTI', hTO', h1', h2', h3'⟩, fun d hd => ?_⟩
    rw [upd_ne (Nat.ne_of_lt (Nat.lt_of_lt_of_le (low d hd) hnew))]
    exact (fp d hd).1
  done := by
    intro X e1 e2 e3 calm i pins s σ H E I fp st stop
    subst e1 e2 e3
    obtain ⟨rfl, qa, qb, qc⟩ := stop
    obtain ⟨hz, hTI, hTO, h1, h2, h3⟩ := st
    obtain ⟨its1, rv1, p1, hz1⟩ := I.tuple qa
    obtain ⟨its2, rv2, p2, hz2⟩ := I.tuple qb
    obtain ⟨its3, rv3, p3, hz3⟩ := I.tuple qc
    have hd := I.ok.hd calm
    have z1 : its1.toArray.size = xs.length := by rw [List.size_toArray, ← rv1.length]
    have z2 : its2.toArray.size = xs.length := by rw [List.size_toArray, ← rv2.length, l2]
    have z3 : its3.toArray.size = xs.length := by rw [List.size_toArray, ← rv3.length, l3]
    have W := GoesN.zip3 (prog := X.prog) (w := X.w) (A := X.A) (elts := tg) (x1 := m) (pos := tp) Sp (Draws.tuple (A := X.A.in1) hd i1 a na its1.toArray) (Draws.tuple (A := X.A.in1) hd i2 b nb its2.toArray) (Draws.tuple (A := X.A.in1) hd i3 c nc its3.toArray)
    rw [z1, z2, z3, Nat.min_self, Nat.min_self] at W
    refine W.stops s _ E ⟨hz, hTI, hTO, ⟨h1, p1⟩, ⟨h2, p2⟩, ⟨h3, p3⟩⟩ fun h' tk kk _ => ?_
    exact I.turnedL (t' := tk) (ch := [z, TI, TO, i1, i2, i3]) (fun d o n q => kk d o (fun m => n (by
      simp only [List.mem_cons, List.not_mem_nil, or_false] at m ⊢
      rcases m with m | m | m | m | m
      · exact .inl m
      · exact .inr (.inr (.inl m))
      · exact .inr (.inr (.inr (.inl m)))
      · exact .inr (.inr (.inr (.inr (.inl m))))
      · exact .inr (.inr (.inr (.inr (.inr m)))))) q) fp
  self := fun A i s Q E st h => wpAny_pyIter_zip st.1 h
def iZip3 (K : PySem.W.Frag) (ta : TA) : TI := fun σ H R => ta σ H fun vs H1 => ∃ a b c xs ys us, vs = [.ref a, .ref b, .ref c] ∧ SqT K H1 a xs ∧ SqT K H1 b ys ∧ SqT K H1 c us ∧ ys.length = xs.length ∧ us.length = xs.length ∧ R (Itz3 K a b c xs ys us) H1
theorem pi_zip3 {X : Cx} {e e2 e3 : Expr} {ta : TA} {p pos tp : Pos} {tg : List Expr} {n : Nat} (hg : Gl X "zip") (hm : X.mg "zip" = none) (ha : PA X [e, e2, e3] ta)
    (se : starEach [e, e2, e3] X.env = (false, eval e X.env) :: starEach [e2, e3] X.env := by rfl) (sn : (backTo pos (starEach [e2, e3] X.env)).any (·.1) = false := by rfl) :
    PI X (.Tuple tg n tp) (.Call (.Name "zip" p) [e, e2, e3] [] pos) (iZip3 X.K ta) := by
  refine ⟨fun pins s σ H R I h => ?_⟩
  refine PyProof.Rows.Call_ (ld_blt I hg hm PyProof.Rows.boot_zip (PyProof.Rows.callWith_type1 (thn (ha.run pos pins s σ H _ I h) fun us s1 ⟨vs, H1, I1, r1, q1⟩ => ?_) se sn))
  obtain ⟨a, b, c, xs, ys, zs, ev, qa, qb, qc, l2, l3, q⟩ := q1
  subst ev
  obtain ⟨u1, u2, u3, rfl, ra, rb, rc⟩ : ∃ u1 u2 u3, us = [u1, u2, u3] ∧ RelV (.ref a) u1 ∧ RelV (.ref b) u2 ∧ RelV (.ref c) u3 := by
    cases r1 with
    | cons ra r1 =>
      cases r1 with
      | cons rb r1 =>
        cases r1 with
        | cons rc r1 =>
          cases r1
          exact ⟨_, _, _, rfl, ra, rb, rc⟩
  obtain rfl : u1 = Value.ref a := ra
  obtain rfl : u2 = Value.ref b := rb
  obtain rfl : u3 = Value.ref c := rc
  obtain ⟨its1, rv1, p1, hz1⟩ := I1.tuple qa
  obtain ⟨its2, rv2, p2, hz2⟩ := I1.tuple qb
  obtain ⟨its3, rv3, p3, hz3⟩ := I1.tuple qc
  obtain ⟨oa, hoa, _⟩ := id p1
  obtain ⟨ob, hob, _⟩ := id p2
  obtain ⟨oc, hoc, _⟩ := id p3
  have la := Heap.lt_size hoa
  have lb := Heap.lt_size hob
  have lc := Heap.lt_size hoc
  refine zip_begins3 (begins_tuple a its1.toArray) (begins_tuple b its2.toArray) (begins_tuple c its3.toArray) p1 p2 p3 fun g hz hTI hTO g1 g2 g3 hsz k => wpAny_pyIter_zip hz ?_
  have I2 : Inv X pins σ H1 { s1 with heap := g } := I1.kept (t' := s1.toks) k
  refine ⟨s1.heap.objs.size + 5, [s1.heap.objs.size + 5, s1.heap.objs.size + 3, s1.heap.objs.size + 4, s1.heap.objs.size, s1.heap.objs.size + 1, s1.heap.objs.size + 2], _, _, H1, rfl, I2,
    turn_zip3 (zip_sep3 (fp1 := [a]) (fp2 := [b]) (fp3 := [c]) (fun d hd => by rw [List.mem_singleton.mp hd]; exact la) (fun d hd => by rw [List.mem_singleton.mp hd]; exact lb) (fun d hd => by rw [List.mem_singleton.mp hd]; exact lc)) (Nat.ne_of_lt la) (Nat.ne_of_lt (Nat.lt_succ_of_lt lb)) (Nat.ne_of_lt (Nat.lt_succ_of_lt (Nat.lt_succ_of_lt lc))) l2 l3,
    ⟨hz, hTI, ⟨_, _, _, hTO⟩, ⟨_, g1, rfl, rfl⟩, ⟨_, g2, rfl, rfl⟩, ⟨_, g3, rfl, rfl⟩⟩, fun d m => ?_, q⟩
  have le : s1.heap.objs.size ≤ d := by
    simp only [List.mem_cons, List.not_mem_nil, or_false] at m
    rcases m with z | z | z | z | z | z
    · exact z ▸ Nat.le_add_right _ _
    · exact z ▸ Nat.le_add_right _ _
    · exact z ▸ Nat.le_add_right _ _
    · exact z ▸ Nat.le_refl _
    · exact z ▸ Nat.le_add_right _ _
    · exact z ▸ Nat.le_add_right _ _
  exact I1.fpOk le (I1.hok.fresh le)
/-- a loop over the triples of three tuples -/
theorem for_zip3 {K : PySem.W.Frag} {a b c : Addr} {xs ys us : List V} {g : TG} {tb : TS} {D : Ends} {σ : L2.St} {H : Hp} (l2 : ys.length = xs.length) (l3 : us.length = xs.length) (Pv : Nat → L2.St → Hp → Prop) (h0 : Pv 0 σ H) (hl : ∀ i σ H, Pv i σ H → SqT K H a xs ∧ SqT K H b ys ∧ SqT K H c us)
    (hs : ∀ (i : Nat) (x y u : V) (T : Addr) (σ : L2.St) (H : Hp), xs[i]? = some x → ys[i]? = some y → us[i]? = some u → Pv i σ H → H T = none → g (.ref T) σ (upd H T (.tup [x, y, u])) fun σ2 H2 => tb { D with nx := Pv (i + 1), ct := Pv (i + 1), bk := D.nx } σ2 H2)
    (hd : ∀ σ H, Pv xs.length σ H → D.nx σ H) :
    ∃ W : Nat → Nat → L2.St → Hp → Prop, (∃ m, W 0 m σ H) ∧ ∀ i m σ H, W i m σ H →
      ((Itz3 K a b c xs ys us).stop i H ∧ D.nx σ H) ∨ ((Itz3 K a b c xs ys us).go i H ∧ ∃ N : L2.St → Hp → Prop, (∀ σ' H', N σ' H' → ∃ m', m' < m ∧ W (i + 1) m' σ' H') ∧ ∀ v H', (Itz3 K a b c xs ys us).yld i H v H' → g v σ H' fun σ2 H2 => tb { D with nx := N, ct := N, bk := D.nx } σ2 H2) := by
  refine ⟨fun i m σ H => m = xs.length - i ∧ i ≤ xs.length ∧ Pv i σ H, ⟨xs.length, rfl, Nat.zero_le _, h0⟩, ?_⟩
  rintro i m σ H ⟨rfl, le, p⟩
  obtain ⟨q1, q2, q3⟩ := hl i σ H p
  by_cases lt : i < xs.length
  · refine .inr ⟨⟨lt, q1, q2, q3⟩, Pv (i + 1), fun σ' H' p' => ⟨xs.length - (i + 1), by omega, rfl, lt, p'⟩, fun v H' yl => ?_⟩
    obtain ⟨T, x, y, u, rfl, hT, rfl, e1, e2, e3⟩ := yl
    exact hs i x y u T σ H e1 e2 e3 p hT
  · obtain rfl : i = xs.length := by omega
    exact .inl ⟨⟨rfl, q1, q2, q3⟩, hd σ H p⟩
end PSY

set_option Elab.async false
set_option linter.all false
set_option maxRecDepth 100000
set_option maxHeartbeats 4000000
/-! l.remove(x) where things are compared deep -/
namespace PSY
open PySem PySem.Spec PyProof.Rows L2
def rRemoveD (K : PySem.W.Frag) : V → List V → Hp → VK → Prop := fun x xs H Q => ∃ (a : Addr) (y : V) (vs : List V) (d : PyData) (ds : List PyData) (j : Nat) (z : PyData), x = V.ref a ∧ xs = [y] ∧ H a = some (.lst vs) ∧ DpAll K H vs ds ∧ Dp K H y d ∧
  SeqAt.shaped (.list ds) = true ∧ SeqAt.shaped d = true ∧ ds[j]? = some z ∧ PyData.eqv z d = true ∧ (∀ (m : Nat) (z' : PyData), m < j → ds[m]? = some z' → PyData.eqv z' d = false) ∧ Q .non (upd H a (.lst (vs.eraseIdx j)))
section
variable {X : Cx}
theorem mt_removeD (hu : X.A.units + 65 < cLine) : MtM X "list.remove" (rRemoveD X.K) := by
  intro pins s σ H x xs v us Q I rx rxs h
  obtain ⟨a, y, vs, d, ds, j, z, rfl, rfl, hH, ha, hy, sl, sd, hz, hzj, hno, q⟩ := h
  cases rx
  cases rxs with
  | cons ry rt =>
    rename_i uy ut
    cases rt
    obtain ⟨bs, r1⟩ := Dp.reads I d y uy hy ry
    have hxs : PyData.canLayAll0 ds = true := SeqAt.canLay_of_shaped sl
    have hroom : X.A.units + 1 + min (PyData.depthAll ds) d.depth < cLine := room_in_shaped sd hu
    obtain ⟨zz, its, n, rv, hlen, ho⟩ := I.lstM hH
    obtain ⟨as, h4⟩ := Dp.readsAll I ds _ its ha rv
    have hn : its.length = ds.length := SeqAt.ReadsAll.length ds its as h4
    have hmap : its.map (SeqAt.readOf s.heap) = ds := SeqAt.readsAll_map ds its as hxs h4
    have hvl := rv.length
    have hsl := sizeLine_eq
    obtain ⟨hjd, _⟩ := List.getElem?_eq_some_iff.mp hz
    have hjl : j < its.length := by omega
    have hj : j < its.toArray.size := by simpa using hjl
    have hsz : its.toArray.size ≤ sizeLine := by rw [List.size_toArray, ← hlen]; exact zz
    have at_ : ∀ (m : Nat) (hm : m < its.toArray.size) (z' : PyData), ds[m]? = some z' → SeqAt.readOf s.heap its.toArray[m] = z' := by
      intro m hm z' hz'
      have hml : m < its.length := by simpa using hm
      rw [← hmap, List.getElem?_map, List.getElem?_eq_getElem hml] at hz'
      have e1 : SeqAt.readOf s.heap its[m] = z' := Option.some.inj (show some (SeqAt.readOf s.heap its[m]) = some z' from hz')
      simpa using e1
    refine call_meets PySem.F.slot_list_remove ⟨_, ho, rfl⟩ PySem.F.entry_list_remove (PySem.F.args_list_remove_2 _ _)
      (SeqAt.list_removeAt a its.toArray n _ _ uy (fun u => PyData.eqv (SeqAt.readOf s.heap u) d) j hj ?_ ?_ hsz) ⟨ho, SeqAt.items_eqAt (vs := its.toArray) (show ReadsAll s.heap its.toArray.toList ds as from h4) r1 hxs (SeqAt.canLay_of_shaped sd) hroom, ?_⟩
    · show PyData.eqv (SeqAt.readOf s.heap its.toArray[j]) d = true
      rw [at_ j hj z hz]
      exact hzj
    · intro m hm hmj
      have hmd : m < ds.length := by omega
      have hz' : ds[m]? = some ds[m] := List.getElem?_eq_getElem hmd
      show PyData.eqv (SeqAt.readOf s.heap its.toArray[m]) d = false
      rw [at_ m hm _ hz']
      exact hno m _ hmj hz'
    · refine ⟨.non, _, I.lset (its' := its.eraseIdx j) hH ho ?_ (rv.eraseIdx j) ?_, rfl, q⟩
      · show its.toArray.eraseIdxIfInBounds j = (its.eraseIdx j).toArray
        rw [List.eraseIdxIfInBounds_toArray]
      · have := len_erase vs j
        omega
end
end PSY

set_option Elab.async false
set_option linter.all false
set_option maxRecDepth 100000
set_option maxHeartbeats 4000000
/-! generator defs with defaults; `for` in them over a list -/
namespace PSY
open PySem PySem.Spec PyProof.Rows L2 GenW
section
variable {P : Program} {w : World} {K : PySem.W.Frag} {mg : Str → Option Value} {base : Heap} {x qual : Str} {params : Arguments} {body : List Stmt} {scope : Scope} {dvs : List V} {kws : List (Str × V)} {f : Addr} {fd : FuncData}
theorem gok {N ps : List Str} {k : Nat} {sp : SpG} (F : FunD K x qual params body scope dvs kws f fd) (S : GScope N ps scope) (len : ∀ vs H Q E, sp vs H Q E → vs.length = ps.length)
    (hbody : ∀ (cdv : Value) (A : Around) (outer : List Env) (s : Shared) (H : Hp) (vs : List V) (Q : List V → Hp → Prop) (E : XK) (pn : List (Addr × Obj)), Room k (A.deeper (envOfC qual scope s.heap.objs.size f cdv)) → sp vs H Q E →
      ∃ t, GSs (gcxOf P w K mg base N qual scope f cdv A outer s H E pn) body t ∧ t { nx := fun ys _ H' => Q ys H', rt := fun ys v H' => v = .non ∧ Q ys H' } [] (start N vs) H) : GFn P w K mg base (k + 1) f fd ps sp := by
  obtain ⟨oc, od, dV, kV, doc, pm, an, cdv, ct, osl, rfl, lk, hcd, _, _⟩ := F.ex
  exact gfn_of lk hcd S len fun A outer s H vs Q E pn hr hsp => hbody cdv A outer s H vs Q E pn hr hsp
theorem gfor_list {a : Addr} {xs : List V} {g : TG} {tb : TGn} {D : GEnds} {ys : List V} {σ : L2.St} {H1 : Hp} (Pv : Nat → List V → L2.St → Hp → Prop) (h0 : Pv 0 ys σ H1) (hl : ∀ i ys σ H, i ≤ xs.length → Pv i ys σ H → SqL K H a xs)
    (hs : ∀ i x ys σ H, xs[i]? = some x → Pv i ys σ H → g x σ H fun σ2 H2 => tb { D with nx := Pv (i + 1), ct := Pv (i + 1), bk := D.nx } ys σ2 H2) (hd : ∀ ys σ H, Pv xs.length ys σ H → D.nx ys σ H) :
    ∃ W : Nat → Nat → List V → L2.St → Hp → Prop, (∃ m, W 0 m ys σ H1) ∧ ∀ i m ys σ H, W i m ys σ H →
      ((Itl K a).stop i H ∧ D.nx ys σ H) ∨ ((Itl K a).go i H ∧ ∃ N : List V → L2.St → Hp → Prop, (∀ ys' σ' H', N ys' σ' H' → ∃ m', m' < m ∧ W (i + 1) m' ys' σ' H') ∧ ∀ x H', (Itl K a).yld i H x H' → g x σ H' fun σ2 H2 => tb { D with nx := N, ct := N, bk := D.nx } ys σ2 H2) := by
  refine ⟨fun i m ys σ H => m = xs.length - i ∧ i ≤ xs.length ∧ Pv i ys σ H, ⟨_, rfl, Nat.zero_le _, h0⟩, ?_⟩
  rintro i m ys σ H ⟨rfl, le, p⟩
  have q := hl i ys σ H le p
  by_cases lt : i < xs.length
  · refine .inr ⟨⟨xs, xs[i], q, by simp [lt]⟩, Pv (i + 1), fun ys' σ' H' p' => ⟨_, by omega, rfl, lt, p'⟩, fun x H' y => ?_⟩
    obtain ⟨rfl, y⟩ := y
    exact hs i x ys σ _ (y xs q) p
  · obtain rfl : i = xs.length := by omega
    exact .inl ⟨⟨xs, q, Nat.le_refl _⟩, hd ys σ H p⟩
end
theorem hu65 {A : Around} {k : Nat} (hr : Room k A) : A.units + 65 < cLine := by
  have := hr.un
  omega
theorem op_notB {X : Cx} : OpR X (compareOp .IsNot) (fun x y H Q => ∃ b c, x = .bl b ∧ y = .bl c ∧ Q (.bl (!(b == c))) H) := by
  intro pins s σ H x y v u Q I rx ry h
  obtain ⟨b, c, rfl, rfl, q⟩ := h
  cases rx
  cases ry
  refine wpAny_isNot_plain (by cases b <;> cases c <;> rfl) ⟨.bl _, H, I, ?_, q⟩
  cases b <;> cases c <;> rfl
theorem passG0 {X : Cx} : Passes (L2.CX X.prog X.w) X E0 := fun _ _ _ _ _ _ _ h => by
  obtain ⟨_, _, _, _, _, _, _, _, _, _, _, _, z⟩ := h
  exact z.elim
theorem nostop0 {K : PySem.W.Frag} : NoStop K E0 := fun _ _ _ h => h.elim
/-- the ways of a statement meet in W -/
def tGCut (W : L2.St → Hp → Prop) (t u : TGn) : TGn := fun D ys σ H => t { D with nx := fun ys' σ' H' => ys' = ys ∧ W σ' H' } ys σ H ∧ ∀ σ' H', W σ' H' → u D ys σ' H'
theorem gss_cut {X : Cx} {st : Stmt} {rest : List Stmt} {t u : TGn} (W : L2.St → Hp → Prop) (a : GS X st t) (b : GSs X rest u) : GSs X (st :: rest) (tGCut W t u) := by
  refine ⟨fun A S ip R n ys s₀ c fs K J gd lv s σ H D g hn k hI ht => ?_⟩
  obtain ⟨ht, hu⟩ := ht
  refine seg_execs_cons ?_
  refine a.run A S ip R n ys s₀ c fs _ J gd lv s σ H { D with nx := fun ys' σ' H' => ys' = ys ∧ W σ' H' } g hn ⟨fun n' ys' s₀' s' f hn' hs => ?_, k.exc⟩ hI ht
  cases f with
  | next =>
    obtain ⟨σ', H', I', e, q⟩ := hs
    subst e
    exact b.run A S ip R n' _ s₀' c fs K J gd lv s' σ' H' D g hn' k I' (hu σ' H' q)
  | brk => exact k.ok n' ys' s₀' s' .brk hn' hs
  | cont => exact k.ok n' ys' s₀' s' .cont hn' hs
  | ret u => exact k.ok n' ys' s₀' s' (.ret u) hn' hs
end PSY

set_option Elab.async false
set_option linter.all false
set_option maxRecDepth 100000
set_option maxHeartbeats 4000000
/-! a layer of data: what a def does, said without the heap -/
namespace DL
open PySem PySem.Spec L2 PSG
inductive D where
  | non | bl (b : Bool) | int (i : Int) | str (x : Str)
  | lst (xs : List D) | tup (xs : List D) | dic (kvs : List (Key × D))
  | pot | obj (C : Addr) (fs : List (Str × D)) | set (ks : List Key)
/-- where the draws' two numbers stand (if there are any) -/
abbrev Rp := Option Addr
mutual
inductive At (K : PySem.W.Frag) (r : Rp) (H : Hp) : V → D → Prop
  | non : At K r H .non .non
  | bl (b : Bool) : At K r H (.bl b) (.bl b)
  | int (i : Int) : At K r H (.int i) (.int i)
  | str (x : Str) : At K r H (.str x) (.str x)
  | lst {a : Addr} {xs : List V} {ds : List D} : H a = some (.lst xs) → AtL K r H xs ds → At K r H (.ref a) (.lst ds)
  | tup {a : Addr} {xs : List V} {ds : List D} : SqT K H a xs → AtL K r H xs ds → At K r H (.ref a) (.tup ds)
  | dic {a : Addr} {kvs : List (Key × V)} {kds : List (Key × D)} : H a = some (.dK kvs) → AtK K r H kvs kds → At K r H (.ref a) (.dic kds)
  | pot {a : Addr} : r = some a → At K r H (.ref a) .pot
  | obj {a C dx : Addr} {fs : List (Str × V)} {fd : List (Str × D)} : H a = some (.ins C dx fs) → AtF K r H fs fd → At K r H (.ref a) (.obj C fd)
inductive AtL (K : PySem.W.Frag) (r : Rp) (H : Hp) : List V → List D → Prop
  | nil : AtL K r H [] []
  | cons {v : V} {vs : List V} {d : D} {ds : List D} : At K r H v d → AtL K r H vs ds → AtL K r H (v :: vs) (d :: ds)
inductive AtK (K : PySem.W.Frag) (r : Rp) (H : Hp) : List (Key × V) → List (Key × D) → Prop
  | nil : AtK K r H [] []
  | cons {k : Key} {v : V} {vs : List (Key × V)} {d : D} {ds : List (Key × D)} : At K r H v d → AtK K r H vs ds → AtK K r H ((k, v) :: vs) ((k, d) :: ds)
inductive AtF (K : PySem.W.Frag) (r : Rp) (H : Hp) : List (Str × V) → List (Str × D) → Prop
  | nil : AtF K r H [] []
  | cons {k : Str} {v : V} {vs : List (Str × V)} {d : D} {ds : List (Str × D)} : At K r H v d → AtF K r H vs ds → AtF K r H ((k, v) :: vs) ((k, d) :: ds)
end
section
variable {K : PySem.W.Frag} {r : Rp} {H H' : Hp}
mutual
theorem At.same (s : Same H H') : ∀ {v : V} {d : D}, At K r H v d → At K r H' v d
  | _, _, .non => .non
  | _, _, .bl b => .bl b
  | _, _, .int i => .int i
  | _, _, .str x => .str x
  | _, _, .lst e t => .lst (s _ _ e) (AtL.same s t)
  | _, _, .tup e t => .tup (PSG.same_tup s e) (AtL.same s t)
  | _, _, .dic e t => .dic (s _ _ e) (AtK.same s t)
  | _, _, .pot e => .pot e
  | _, _, .obj e t => .obj (s _ _ e) (AtF.same s t)
theorem AtL.same (s : Same H H') : ∀ {v : List V} {d : List D}, AtL K r H v d → AtL K r H' v d
  | _, _, .nil => .nil
  | _, _, .cons h t => .cons (At.same s h) (AtL.same s t)
theorem AtK.same (s : Same H H') : ∀ {v : List (Key × V)} {d : List (Key × D)}, AtK K r H v d → AtK K r H' v d
  | _, _, .nil => .nil
  | _, _, .cons h t => .cons (At.same s h) (AtK.same s t)
theorem AtF.same (s : Same H H') : ∀ {v : List (Str × V)} {d : List (Str × D)}, AtF K r H v d → AtF K r H' v d
  | _, _, .nil => .nil
  | _, _, .cons h t => .cons (At.same s h) (AtF.same s t)
end
theorem AtL.length : ∀ {vs : List V} {ds : List D}, AtL K r H vs ds → vs.length = ds.length
  | _, _, .nil => rfl
  | _, _, .cons _ t => congrArg Nat.succ (AtL.length t)
theorem AtL.append : ∀ {vs ws : List V} {ds es : List D}, AtL K r H vs ds → AtL K r H ws es → AtL K r H (vs ++ ws) (ds ++ es)
  | _, _, _, _, .nil, h => h
  | _, _, _, _, .cons h t, h2 => .cons h (AtL.append t h2)
theorem AtL.get : ∀ {vs : List V} {ds : List D} {i : Nat} {d : D}, AtL K r H vs ds → ds[i]? = some d → ∃ v, vs[i]? = some v ∧ At K r H v d
  | _, _, i, _, .nil, e => by simp at e
  | _, _, 0, _, .cons h _, e => by
    have e' := Option.some.inj e
    subst e'
    exact ⟨_, rfl, h⟩
  | _, _, i + 1, _, .cons _ t, e => AtL.get (i := i) t e
theorem AtL.getV : ∀ {vs : List V} {ds : List D} {i : Nat} {v : V}, AtL K r H vs ds → vs[i]? = some v → ∃ d, ds[i]? = some d ∧ At K r H v d
  | _, _, i, _, .nil, e => by simp at e
  | _, _, 0, _, .cons h _, e => by
    have e' := Option.some.inj e
    subst e'
    exact ⟨_, rfl, h⟩
  | _, _, i + 1, _, .cons _ t, e => AtL.getV (i := i) t e
theorem AtL.take : ∀ {vs : List V} {ds : List D} (n : Nat), AtL K r H vs ds → AtL K r H (vs.take n) (ds.take n)
  | _, _, 0, _ => .nil
  | _, _, _ + 1, .nil => .nil
  | _, _, n + 1, .cons h t => .cons h (AtL.take n t)
theorem AtL.drop : ∀ {vs : List V} {ds : List D} (n : Nat), AtL K r H vs ds → AtL K r H (vs.drop n) (ds.drop n)
  | _, _, 0, h => h
  | _, _, _ + 1, .nil => .nil
  | _, _, n + 1, .cons h t => AtL.drop n t
theorem AtL.erase : ∀ {vs : List V} {ds : List D} (n : Nat), AtL K r H vs ds → AtL K r H (vs.eraseIdx n) (ds.eraseIdx n)
  | _, _, 0, .nil => .nil
  | _, _, _ + 1, .nil => .nil
  | _, _, 0, .cons h t => t
  | _, _, n + 1, .cons h t => .cons h (AtL.erase n t)
theorem AtL.set : ∀ {vs : List V} {ds : List D} (n : Nat) {v : V} {d : D}, At K r H v d → AtL K r H vs ds → AtL K r H (vs.set n v) (ds.set n d)
  | _, _, 0, _, _, _, .nil => .nil
  | _, _, _ + 1, _, _, _, .nil => .nil
  | _, _, 0, _, _, q, .cons h t => .cons q t
  | _, _, n + 1, _, _, q, .cons h t => .cons h (AtL.set n q t)
theorem AtL.reverse : ∀ {vs : List V} {ds : List D}, AtL K r H vs ds → AtL K r H vs.reverse ds.reverse
  | _, _, .nil => .nil
  | _, _, .cons h t => by
    rw [List.reverse_cons, List.reverse_cons]
    exact (AtL.reverse t).append (.cons h .nil)
end
/-! ### what is hidden -/
open Classical in
noncomputable def hid (S : Addr → Prop) (H : Hp) : Hp := fun b => if S b then none else H b
section
variable {S S' : Addr → Prop} {H H' : Hp} {b : Addr} {o : HO}
theorem hid_no (h : ¬ S b) : hid S H b = H b := if_neg h
theorem hid_of (e : hid S H b = some o) : ¬ S b ∧ H b = some o := by
  by_cases h : S b
  · rw [show hid S H b = none from if_pos h] at e
    cases e
  · exact ⟨h, (hid_no h).symm.trans e⟩
theorem hid_sub : Same (hid S H) H := fun _ _ e => (hid_of e).2
theorem hid_mono (h : ∀ b, S' b → S b) : Same (hid S H) (hid S' H) := fun b o e => by
  obtain ⟨n, e⟩ := hid_of e
  rw [hid_no fun z => n (h b z)]
  exact e
theorem hid_same (s : Same H H') : Same (hid S H) (hid S H') := fun b o e => by
  obtain ⟨n, e⟩ := hid_of e
  rw [hid_no n]
  exact s _ _ e
end
/-- what is hidden has been made -/
def There (S : Addr → Prop) (H : Hp) : Prop := ∀ b, S b → ∃ o, H b = some o
theorem There.free {S : Addr → Prop} {H : Hp} {p : Addr} (t : There S H) (h : H p = none) : ¬ S p := fun z => by
  obtain ⟨o, e⟩ := t p z
  rw [h] at e
  cases e
theorem There.same {S : Addr → Prop} {H H' : Hp} (t : There S H) (s : Same H H') : There S H' := fun b z => by
  obtain ⟨o, e⟩ := t b z
  exact ⟨o, s _ _ e⟩
/-- the draws' numbers -/
def Pt (H : Hp) (a : Addr) : Prop := ∃ x y : Int, H a = some (.lst [.int x, .int y]) ∧ 0 ≤ x ∧ 0 ≤ y ∧ y < 2147483700
theorem Pt.same {H H' : Hp} {a : Addr} (g : Pt H a) (s : Same H H') : Pt H' a := by
  obtain ⟨x, y, e, z⟩ := g
  exact ⟨x, y, s _ _ e, z⟩
theorem Pt.some {H : Hp} {a : Addr} (g : Pt H a) : ∃ o, H a = some o := by
  obtain ⟨x, y, e, z⟩ := g
  exact ⟨_, e⟩

/-- what stands at p, its parts seen through S -/
def TopAt (K : PySem.W.Frag) (r : Rp) (S : Addr → Prop) (H : Hp) (p : Addr) (d : D) : Prop :=
  (∃ xs ds, d = .lst ds ∧ H p = some (.lst xs) ∧ AtL K r (hid S H) xs ds) ∨ ∃ kvs kds, d = .dic kds ∧ H p = some (.dK kvs) ∧ AtK K r (hid S H) kvs kds
theorem TopAt.mono {K : PySem.W.Frag} {r : Rp} {S S' : Addr → Prop} {H : Hp} {p : Addr} {d : D} (h : TopAt K r S H p d) (k : ∀ b, S' b → S b) : TopAt K r S' H p d := by
  rcases h with ⟨xs, ds, e, hp, t⟩ | ⟨xs, ds, e, hp, t⟩
  · exact .inl ⟨xs, ds, e, hp, t.same (hid_mono k)⟩
  · exact .inr ⟨xs, ds, e, hp, t.same (hid_mono k)⟩
theorem TopAt.same {K : PySem.W.Frag} {r : Rp} {S : Addr → Prop} {H H' : Hp} {p : Addr} {d : D} (h : TopAt K r S H p d) (k : Same (hid S H) (hid S H')) (e : H' p = H p) : TopAt K r S H' p d := by
  rcases h with ⟨xs, ds, e1, hp, t⟩ | ⟨xs, ds, e1, hp, t⟩
  · exact .inl ⟨xs, ds, e1, e.trans hp, t.same k⟩
  · exact .inr ⟨xs, ds, e1, e.trans hp, t.same k⟩
theorem TopAt.at {K : PySem.W.Frag} {r : Rp} {S S' : Addr → Prop} {H : Hp} {p : Addr} {d : D} (h : TopAt K r S H p d) (k : ∀ b, S' b → S b) (n : ¬ S' p) : At K r (hid S' H) (.ref p) d := by
  rcases h.mono k with ⟨xs, ds, rfl, hp, t⟩ | ⟨xs, ds, rfl, hp, t⟩
  · exact .lst ((hid_no n).trans hp) t
  · exact .dic ((hid_no n).trans hp) t
/-- what a slot holds: data that others may hold as well, or a list of its own -/
inductive Sl where
  | fz (d : D) | ow (d : D)
abbrev DSt := List (Option Sl)
/-- the addresses that slots own -/
abbrev Own := Nat → Option Addr
def sa (S : Addr → Prop) (A : Own) : Addr → Prop := fun b => S b ∨ ∃ i, A i = some b
theorem sa_l {S : Addr → Prop} {A : Own} {b : Addr} (h : S b) : sa S A b := .inl h
structure StAt (K : PySem.W.Frag) (r : Rp) (S : Addr → Prop) (H : Hp) (σ : L2.St) (δ : DSt) (A : Own) : Prop where
  len : δ.length = σ.length
  fz : ∀ (i : Nat) d, δ[i]? = some (some (Sl.fz d)) → ∃ v, σ[i]? = some (some v) ∧ At K r (hid (sa S A) H) v d
  ow : ∀ (i : Nat) d, δ[i]? = some (some (Sl.ow d)) → ∃ a, A i = some a ∧ σ[i]? = some (some (.ref a)) ∧ TopAt K r (sa S A) H a d
  own : ∀ (i : Nat) a, A i = some a → (∃ d, δ[i]? = some (some (Sl.ow d))) ∧ ¬ S a ∧ ∀ j, A j = some a → j = i
  there : There S H
  pot : ∀ a, r = some a → S a ∧ Pt H a
section
variable {K : PySem.W.Frag} {r : Rp} {S : Addr → Prop} {H H' : Hp} {σ : L2.St} {δ : DSt} {A A' : Own}
theorem StAt.thereA (h : StAt K r S H σ δ A) : There (sa S A) H := fun b z => by
  rcases z with z | ⟨i, e⟩
  · exact h.there b z
  · obtain ⟨⟨d, e1⟩, _⟩ := h.own i b e
    obtain ⟨a, e2, _, t⟩ := h.ow i d e1
    rw [e] at e2
    cases e2
    rcases t with ⟨xs, ds, _, e3, _⟩ | ⟨xs, ds, _, e3, _⟩
    · exact ⟨_, e3⟩
    · exact ⟨_, e3⟩
theorem StAt.same (h : StAt K r S H σ δ A) (s : Same H H') : StAt K r S H' σ δ A where
  len := h.len
  fz := fun i d e => by
    obtain ⟨v, e1, t⟩ := h.fz i d e
    exact ⟨v, e1, t.same (hid_same s)⟩
  ow := fun i d e => by
    obtain ⟨a, e1, e2, t⟩ := h.ow i d e
    refine ⟨a, e1, e2, t.same (hid_same s) ?_⟩
    obtain ⟨o, ho⟩ := h.thereA a (.inr ⟨i, e1⟩)
    rw [ho]
    exact s _ _ ho
  own := h.own
  there := h.there.same s
  pot := fun a e => ⟨(h.pot a e).1, (h.pot a e).2.same s⟩
end
/-- all but the draws' list stays -/
def ButR (r : Rp) (H H' : Hp) : Prop := ∀ b o, r ≠ some b → H b = some o → H' b = some o
def PtR (r : Rp) (H : Hp) : Prop := ∀ a, r = some a → Pt H a
theorem ButR.of {r : Rp} {H H' : Hp} (s : Same H H') : ButR r H H' := fun b o _ e => s b o e
section
variable {K : PySem.W.Frag} {r : Rp} {S : Addr → Prop} {H H' : Hp} {σ : L2.St} {δ : DSt} {A A' : Own}
theorem StAt.vis (h : StAt K r S H σ δ A) (s : ButR r H H') : Same (hid (sa S A) H) (hid (sa S A) H') := fun b o e => by
  obtain ⟨n, e⟩ := hid_of e
  rw [hid_no n]
  exact s b o (fun z => n (.inl (h.pot b z).1)) e
theorem StAt.go (h : StAt K r S H σ δ A) (s : ButR r H H') (pt : PtR r H') : StAt K r S H' σ δ A where
  len := h.len
  fz := fun i d e => by
    obtain ⟨v, e1, t⟩ := h.fz i d e
    exact ⟨v, e1, t.same (h.vis s)⟩
  ow := fun i d e => by
    obtain ⟨a, e1, e2, t⟩ := h.ow i d e
    refine ⟨a, e1, e2, t.same (h.vis s) ?_⟩
    obtain ⟨o, ho⟩ := h.thereA a (.inr ⟨i, e1⟩)
    rw [ho]
    exact s _ _ (fun z => (h.own i a e1).2.1 (h.pot a z).1) ho
  own := h.own
  there := fun b z => by
    by_cases q : r = some b
    · exact (pt b q).some
    · obtain ⟨o, ho⟩ := h.there b z
      exact ⟨o, s b o q ho⟩
  pot := fun a e => ⟨(h.pot a e).1, pt a e⟩
/-- .. and something new is hidden -/
theorem StAt.goH (h : StAt K r S H σ δ A) (s : ButR r H H') (pt : PtR r H') {p : Addr} (hp : H p = none) (hp' : ∃ o, H' p = some o) : StAt K r (fun b => S b ∨ b = p) H' σ δ A := by
  have g := h.go s pt
  have vis : Same (hid (sa S A) H) (hid (sa (fun b => S b ∨ b = p) A) H') := fun b o e => by
    obtain ⟨n, e0⟩ := hid_of e
    have e1 := hid_sub _ _ (h.vis s b o e)
    rw [hid_no]
    · exact e1
    · rintro ((z | z) | z)
      · exact n (.inl z)
      · rw [z, hp] at e0
        cases e0
      · exact n (.inr z)
  refine ⟨g.len, fun i d e => ?_, fun i d e => ?_, fun i a e => ?_, fun b z => ?_, fun a e => ⟨.inl (g.pot a e).1, (g.pot a e).2⟩⟩
  · obtain ⟨v, e1, t⟩ := h.fz i d e
    exact ⟨v, e1, t.same vis⟩
  · obtain ⟨a, e1, e2, t⟩ := h.ow i d e
    obtain ⟨o, ho⟩ := h.thereA a (.inr ⟨i, e1⟩)
    have ha' : H' a = H a := by
      rw [ho]
      exact s _ _ (fun z => (h.own i a e1).2.1 (h.pot a z).1) ho
    refine ⟨a, e1, e2, ?_⟩
    rcases t with ⟨xs, ds, e4, q, t⟩ | ⟨xs, ds, e4, q, t⟩
    · exact .inl ⟨xs, ds, e4, ha'.trans q, t.same vis⟩
    · exact .inr ⟨xs, ds, e4, ha'.trans q, t.same vis⟩
  · obtain ⟨h1, h2, h3⟩ := h.own i a e
    refine ⟨h1, fun z => ?_, h3⟩
    rcases z with z | z
    · exact h2 z
    · obtain ⟨o, ho⟩ := h.thereA a (.inr ⟨i, e⟩)
      rw [z, hp] at ho
      cases ho
  · rcases z with z | z
    · exact g.there b z
    · rw [z]
      exact hp'
end
/-- how the heap goes on: what is seen stays, what is hidden stays (but the draws' list), what is owned now was so before or is new -/
structure Ext (r : Rp) (S : Addr → Prop) (A : Own) (H : Hp) (A' : Own) (H' : Hp) : Prop where
  vis : Same (hid (sa S A) H) (hid (sa S A') H')
  hd : ∀ b o, S b → r ≠ some b → H b = some o → H' b = some o
  ow : ∀ i a, A' i = some a → A i = some a ∨ H a = none
  al : ∀ b o, H b = some o → ∃ o', H' b = some o'
section
variable {r : Rp} {S : Addr → Prop} {H H1 H2 : Hp} {A A1 A2 : Own}
theorem Ext.refl : Ext r S A H A H := ⟨Same.refl _, fun _ _ _ _ e => e, fun _ _ e => .inl e, fun _ _ e => ⟨_, e⟩⟩
theorem Ext.of (s : Same H H1) : Ext r S A H A H1 := ⟨hid_same s, fun _ _ _ _ e => s _ _ e, fun _ _ e => .inl e, fun _ _ e => ⟨_, s _ _ e⟩⟩
theorem Ext.trans (a : Ext r S A H A1 H1) (b : Ext r S A1 H1 A2 H2) : Ext r S A H A2 H2 where
  vis := a.vis.trans b.vis
  hd := fun c o z n e => b.hd c o z n (a.hd c o z n e)
  ow := fun i c e => by
    rcases b.ow i c e with z | z
    · exact a.ow i c z
    · refine .inr ?_
      cases q : H c with
      | none => rfl
      | some o =>
        obtain ⟨o', e'⟩ := a.al c o q
        rw [z] at e'
        cases e'
  al := fun c o e => by
    obtain ⟨o1, e1⟩ := a.al c o e
    exact b.al c o1 e1
theorem Ext.but {K : PySem.W.Frag} {σ : L2.St} {δ : DSt} (st : StAt K r S H σ δ A) (s : ButR r H H1) (pt : PtR r H1) : Ext r S A H A H1 :=
  ⟨st.vis s, fun b o z n e => s b o n e, fun _ _ e => .inl e, fun b o e => by
    by_cases q : r = some b
    · exact (pt b q).some
    · exact ⟨o, s b o q e⟩⟩
theorem Ext.then (a : Ext r S A H A1 H1) (s : Same H1 H2) : Ext r S A H A1 H2 := a.trans (.of s)
end
/-- the value is this data; where it is new, what it is made of does not know it -/
structure Is (fr : Bool) (K : PySem.W.Frag) (r : Rp) (S : Addr → Prop) (H H' : Hp) (v : V) (d : D) : Prop where
  at_ : At K r (hid S H') v d
  new : fr = true → ∃ p, v = .ref p ∧ H p = none ∧ TopAt K r (fun b => S b ∨ b = p) H' p d
theorem TopAt.some {K : PySem.W.Frag} {r : Rp} {S : Addr → Prop} {H : Hp} {p : Addr} {d : D} (h : TopAt K r S H p d) : ∃ o, H p = some o := by
  rcases h with ⟨xs, ds, _, e, _⟩ | ⟨xs, ds, _, e, _⟩
  · exact ⟨_, e⟩
  · exact ⟨_, e⟩
theorem Is.of {K : PySem.W.Frag} {r : Rp} {S : Addr → Prop} {H H' : Hp} {v : V} {d : D} (h : At K r (hid S H') v d) : Is false K r S H H' v d := ⟨h, fun z => nomatch z⟩
abbrev TEd := DSt → (D → DSt → Prop) → Prop
/-- an expression, by data -/
structure DE (X : Cx) (fr : Bool) (e : Expr) (td : TEd) : Prop where
  ex : ∃ t, PE X e t ∧ ∀ (r : Rp) (S : Addr → Prop) (σ : L2.St) (H : Hp) (δ : DSt) (A : Own) (Q : VK) (Qd : D → DSt → Prop), StAt X.K r S H σ δ A → td δ Qd →
    (∀ v H' d δ' A', Ext r S A H A' H' → StAt X.K r S H' σ δ' A' → Is fr X.K r (sa S A') H H' v d → (fr = true → ∀ p, v = .ref p → StAt X.K r (fun b => S b ∨ b = p) H' σ δ' A') → Qd d δ' → Q v H') → t σ H Q
theorem DE.weak {X : Cx} {fr : Bool} {e : Expr} {td : TEd} (h : DE X fr e td) : DE X false e td := by
  obtain ⟨t, p, g⟩ := h.ex
  exact ⟨t, p, fun r S σ H δ A Q Qd st w k => g r S σ H δ A Q Qd st w fun v H' d δ' A' x st' is _ q => k v H' d δ' A' x st' (.of is.at_) (fun z => nomatch z) q⟩
/-- data as an operand: a list of a slot's own may be read as well -/
inductive AtP (K : PySem.W.Frag) (r : Rp) (S : Addr → Prop) (H : Hp) : V → D → Prop
  | top {p : Addr} {d : D} : TopAt K r S H p d → AtP K r S H (.ref p) d
  | at_ {v : V} {d : D} : At K r (hid S H) v d → AtP K r S H v d
section
variable {K : PySem.W.Frag} {r : Rp} {S : Addr → Prop} {H H' : Hp} {v : V}
theorem AtP.list {ds : List D} (h : AtP K r S H v (.lst ds)) : ∃ a xs, v = .ref a ∧ H a = some (.lst xs) ∧ AtL K r (hid S H) xs ds := by
  cases h with
  | top t =>
    rcases t with ⟨xs, ds', e, hp, t⟩ | ⟨xs, ds', e, _⟩
    · cases e
      exact ⟨_, xs, rfl, hp, t⟩
    · cases e
  | at_ t =>
    cases t with
    | lst e t => exact ⟨_, _, rfl, hid_sub _ _ e, t⟩
theorem AtP.dict {ds : List (Key × D)} (h : AtP K r S H v (.dic ds)) : ∃ a xs, v = .ref a ∧ H a = some (.dK xs) ∧ AtK K r (hid S H) xs ds := by
  cases h with
  | top t =>
    rcases t with ⟨xs, ds', e, _⟩ | ⟨xs, ds', e, hp, t⟩
    · cases e
    · cases e
      exact ⟨_, xs, rfl, hp, t⟩
  | at_ t =>
    cases t with
    | dic e t => exact ⟨_, _, rfl, hid_sub _ _ e, t⟩
theorem sqT_sub {a : Addr} {xs : List V} (h : SqT K (hid S H) a xs) : SqT K H a xs := PSG.same_tup hid_sub h
theorem AtP.tuple {ds : List D} (h : AtP K r S H v (.tup ds)) : ∃ a xs, v = .ref a ∧ SqT K H a xs ∧ AtL K r (hid S H) xs ds := by
  cases h with
  | top t => rcases t with ⟨xs, ds', e, _⟩ | ⟨xs, ds', e, _⟩ <;> cases e
  | at_ t =>
    cases t with
    | tup e t => exact ⟨_, _, rfl, sqT_sub e, t⟩
theorem AtP.int {i : Int} (h : AtP K r S H v (.int i)) : v = .int i := by
  cases h with
  | top t => rcases t with ⟨xs, ds', e, _⟩ | ⟨xs, ds', e, _⟩ <;> cases e
  | at_ t => cases t; rfl
theorem AtP.str {x : Str} (h : AtP K r S H v (.str x)) : v = .str x := by
  cases h with
  | top t => rcases t with ⟨xs, ds', e, _⟩ | ⟨xs, ds', e, _⟩ <;> cases e
  | at_ t => cases t; rfl
theorem AtP.bl {b : Bool} (h : AtP K r S H v (.bl b)) : v = .bl b := by
  cases h with
  | top t => rcases t with ⟨xs, ds', e, _⟩ | ⟨xs, ds', e, _⟩ <;> cases e
  | at_ t => cases t; rfl
theorem AtP.non (h : AtP K r S H v .non) : v = .non := by
  cases h with
  | top t => rcases t with ⟨xs, ds', e, _⟩ | ⟨xs, ds', e, _⟩ <;> cases e
  | at_ t => cases t; rfl
/-- seen without anything hidden -/
theorem AtP.all {d : D} (h : AtP K r S H v d) : At K r H v d := by
  cases h with
  | top t =>
    rcases t with ⟨xs, ds', rfl, hp, t⟩ | ⟨xs, ds', rfl, hp, t⟩
    · exact .lst hp (t.same hid_sub)
    · exact .dic hp (t.same hid_sub)
  | at_ t => exact t.same hid_sub
end
/-- what an operand is, once all operands are there -/
abbrev Lt := DSt → Option D
abbrev TPd := DSt → (Lt → DSt → Prop) → Prop
def Late (K : PySem.W.Frag) (r : Rp) (S : Addr → Prop) (σ : L2.St) (v : V) (L : Lt) (A' : Own) (H' : Hp) : Prop :=
  ∀ A2 H2 δ2 d, Ext r S A' H' A2 H2 → StAt K r S H2 σ δ2 A2 → L δ2 = some d → AtP K r (sa S A2) H2 v d
theorem Late.on {K : PySem.W.Frag} {r : Rp} {S : Addr → Prop} {σ : L2.St} {v : V} {L : Lt} {A A' : Own} {H H' : Hp} (h : Late K r S σ v L A H) (x : Ext r S A H A' H') : Late K r S σ v L A' H' :=
  fun A2 H2 δ2 d x2 => h A2 H2 δ2 d (x.trans x2)
structure DP (X : Cx) (e : Expr) (pd : TPd) : Prop where
  ex : ∃ t, PE X e t ∧ ∀ (r : Rp) (S : Addr → Prop) (σ : L2.St) (H : Hp) (δ : DSt) (A : Own) (Q : VK) (Qd : Lt → DSt → Prop), StAt X.K r S H σ δ A → pd δ Qd →
    (∀ v H' L δ' A', Ext r S A H A' H' → StAt X.K r S H' σ δ' A' → Late X.K r S σ v L A' H' → Qd L δ' → Q v H') → t σ H Q
/-- an expression's value as an operand -/
def pdE (td : TEd) : TPd := fun δ Q => td δ fun d δ' => Q (fun _ => some d) δ'
theorem DE.dp {X : Cx} {fr : Bool} {e : Expr} {td : TEd} (h : DE X fr e td) : DP X e (pdE td) := by
  obtain ⟨t, p, g⟩ := h.ex
  refine ⟨t, p, fun r S σ H δ A Q Qd st w k => g r S σ H δ A Q _ st w fun v H' d δ' A' x st' is _ q => k v H' _ δ' A' x st' (fun A2 H2 δ2 d2 x2 _ e => ?_) q⟩
  cases e
  exact .at_ (is.at_.same x2.vis)
/-- what the slot holds -/
def peek (i : Nat) : Lt := fun δ => match δ[i]? with
  | some (some (Sl.fz d)) => some d
  | some (some (Sl.ow d)) => some d
  | _ => none
def pdV (i : Nat) : TPd := fun δ Q => match δ[i]? with
  | some (some _) => Q (peek i) δ
  | _ => False
theorem pdV_of {i : Nat} {δ : DSt} {Q : Lt → DSt → Prop} (w : pdV i δ Q) : (∃ s, δ[i]? = some (some s)) ∧ Q (peek i) δ := by
  unfold pdV at w
  split at w
  · exact ⟨⟨_, by assumption⟩, w⟩
  · exact w.elim
theorem StAt.slot {K : PySem.W.Frag} {r : Rp} {S : Addr → Prop} {H : Hp} {σ : L2.St} {δ : DSt} {A : Own} (st : StAt K r S H σ δ A) {i : Nat} {s : Sl} (e : δ[i]? = some (some s)) : ∃ v, σ[i]? = some (some v) := by
  cases s with
  | fz d =>
    obtain ⟨v, e1, _⟩ := st.fz i d e
    exact ⟨v, e1⟩
  | ow d =>
    obtain ⟨a, _, e1, _⟩ := st.ow i d e
    exact ⟨_, e1⟩
theorem StAt.peek {K : PySem.W.Frag} {r : Rp} {S : Addr → Prop} {H : Hp} {σ : L2.St} {δ : DSt} {A : Own} (st : StAt K r S H σ δ A) {i : Nat} {v : V} {d : D} (hv : σ[i]? = some (some v)) (e : peek i δ = some d) : AtP K r (sa S A) H v d := by
  unfold DL.peek at e
  cases q : δ[i]? with
  | none => rw [q] at e; cases e
  | some o =>
    cases o with
    | none => rw [q] at e; cases e
    | some s =>
      cases s with
      | fz d' =>
        rw [q] at e
        cases e
        obtain ⟨v', e1, t⟩ := st.fz i d q
        rw [hv] at e1
        cases e1
        exact .at_ t
      | ow d' =>
        rw [q] at e
        cases e
        obtain ⟨a, _, e1, t⟩ := st.ow i d q
        rw [hv] at e1
        cases e1
        exact .top t
theorem dp_v {X : Cx} (i : Nat) {x : Str} {pos : Pos} (hN : X.N[i]? = some x := by rfl) (hv : Vis X.env.scope x := by first | exact Or.inl rfl | exact Or.inr (Or.inl rfl) | exact Or.inr (Or.inr rfl)) (hd : (x == ("__debug__" : Str)) = false := by decide)
    (hcd : (x == ("__classdict__" : Str)) = false := by decide) : DP X (.Name x pos) (pdV i) := by
  refine ⟨_, pe_var hN hv hd hcd, fun r S σ H δ A Q Qd st w k => ?_⟩
  obtain ⟨⟨s, e⟩, w⟩ := pdV_of w
  obtain ⟨v, hv⟩ := st.slot e
  exact ⟨v, hv, k v H _ δ A .refl st (fun A2 H2 δ2 d x2 st2 e2 => st2.peek hv e2) w⟩
/-- what the slot holds, held by others from now on -/
def frz (i : Nat) (δ : DSt) : DSt := match δ[i]? with
  | some (some (Sl.ow d)) => δ.set i (some (.fz d))
  | _ => δ
def tdV (i : Nat) : TEd := fun δ Q => match δ[i]? with
  | some (some (.fz d)) => Q d δ
  | some (some (.ow d)) => Q d (δ.set i (some (.fz d)))
  | _ => False
theorem tdV_of {i : Nat} {δ : DSt} {Q : D → DSt → Prop} (w : tdV i δ Q) : ∃ d, peek i δ = some d ∧ Q d (frz i δ) := by
  unfold tdV at w
  unfold peek frz
  split at w
  · rename_i d e
    exact ⟨d, rfl, by rw [e]; exact w⟩
  · rename_i d e
    exact ⟨d, rfl, by rw [e]; exact w⟩
  · exact w.elim
def drop (A : Own) (i : Nat) : Own := fun j => if j = i then none else A j
theorem sa_drop {S : Addr → Prop} {A : Own} {i : Nat} {b : Addr} (h : sa S (drop A i) b) : sa S A b := by
  rcases h with h | ⟨j, h⟩
  · exact .inl h
  · unfold drop at h
    split at h
    · cases h
    · exact .inr ⟨j, h⟩
theorem StAt.frz {K : PySem.W.Frag} {r : Rp} {S : Addr → Prop} {H : Hp} {σ : L2.St} {δ : DSt} {A : Own} (st : StAt K r S H σ δ A) {i : Nat} {v : V} {d : D} (hv : σ[i]? = some (some v)) (e : DL.peek i δ = some d) :
    ∃ A', Ext r S A H A' H ∧ StAt K r S H σ (frz i δ) A' ∧ At K r (hid (sa S A') H) v d := by
  unfold DL.peek at e
  unfold DL.frz
  cases q : δ[i]? with
  | none => rw [q] at e; cases e
  | some o =>
    cases o with
    | none => rw [q] at e; cases e
    | some s =>
      cases s with
      | fz d' =>
        rw [q] at e
        cases e
        obtain ⟨v', e1, t⟩ := st.fz i d q
        rw [hv] at e1
        cases e1
        exact ⟨A, .refl, st, t⟩
      | ow d' =>
        rw [q] at e
        cases e
        obtain ⟨a, ea, e1, t⟩ := st.ow i d q
        rw [hv] at e1
        cases e1
        have na : ¬ sa S (drop A i) a := by
          rintro (z | ⟨j, z⟩)
          · exact (st.own i a ea).2.1 z
          · unfold drop at z
            split at z
            · cases z
            · exact absurd ((st.own i a ea).2.2 j z) (by assumption)
        have t' : At K r (hid (sa S (drop A i)) H) (.ref a) d := t.at (fun b z => sa_drop z) na
        have il : i < δ.length := (List.getElem?_eq_some_iff.mp q).1
        refine ⟨drop A i, ⟨hid_mono fun b z => sa_drop z, fun _ _ _ _ e => e, fun j c e => ?_, fun _ _ e => ⟨_, e⟩⟩, ⟨?_, ?_, ?_, ?_, st.there, st.pot⟩, t'⟩
        · unfold drop at e
          split at e
          · cases e
          · exact .inl e
        · rw [List.length_set]
          exact st.len
        · intro j c e
          dsimp only at e
          by_cases hj : i = j
          · subst hj
            rw [List.getElem?_set_self il] at e
            cases e
            exact ⟨_, hv, t'⟩
          · rw [List.getElem?_set_ne hj] at e
            obtain ⟨w, e2, t2⟩ := st.fz j c e
            exact ⟨w, e2, t2.same (hid_mono fun b z => sa_drop z)⟩
        · intro j c e
          dsimp only at e
          by_cases hj : i = j
          · subst hj
            rw [List.getElem?_set_self il] at e
            cases e
          · rw [List.getElem?_set_ne hj] at e
            obtain ⟨a2, e2, e3, t2⟩ := st.ow j c e
            refine ⟨a2, ?_, e3, t2.mono fun b z => sa_drop z⟩
            unfold drop
            rw [if_neg fun z => hj z.symm]
            exact e2
        · intro j c e
          unfold drop at e
          split at e
          · cases e
          · rename_i hj
            obtain ⟨⟨d2, e2⟩, n2, u2⟩ := st.own j c e
            refine ⟨⟨d2, ?_⟩, n2, fun k z => ?_⟩
            · dsimp only
              rw [List.getElem?_set_ne fun z => hj z.symm]
              exact e2
            · unfold drop at z
              split at z
              · cases z
              · exact u2 k z
theorem peek_some {i : Nat} {δ : DSt} {d : D} (e : peek i δ = some d) : ∃ s, δ[i]? = some (some s) := by
  unfold peek at e
  split at e
  · exact ⟨_, by assumption⟩
  · exact ⟨_, by assumption⟩
  · cases e
theorem de_v {X : Cx} (i : Nat) {x : Str} {pos : Pos} (hN : X.N[i]? = some x := by rfl) (hv : Vis X.env.scope x := by first | exact Or.inl rfl | exact Or.inr (Or.inl rfl) | exact Or.inr (Or.inr rfl)) (hd : (x == ("__debug__" : Str)) = false := by decide)
    (hcd : (x == ("__classdict__" : Str)) = false := by decide) : DE X false (.Name x pos) (tdV i) := by
  refine ⟨_, pe_var hN hv hd hcd, fun r S σ H δ A Q Qd st w k => ?_⟩
  obtain ⟨d, e, w⟩ := tdV_of w
  obtain ⟨s, e1⟩ := peek_some e
  obtain ⟨v, hv⟩ := st.slot e1
  obtain ⟨A', x', st', t'⟩ := st.frz hv e
  exact ⟨v, hv, k v H d _ A' x' st' (.of t') (fun z => nomatch z) w⟩
/-- a constant -/
def tdC (d : D) : TEd := fun δ Q => Q d δ
section
variable {X : Cx}
theorem de_c {e : Expr} {v : V} {d : D} (h : PE X e (tC v)) (a : ∀ r H, At X.K r H v d) : DE X false e (tdC d) :=
  ⟨_, h, fun r S σ H δ A Q Qd st w k => k v H d δ A .refl st (.of (a _ _)) (fun z => nomatch z) w⟩
theorem de_int {i : Int} {j pos} : DE X false (.Constant (.int i) j pos) (tdC (.int i)) := de_c pe_int fun _ _ => .int i
theorem de_bl {b : Bool} {j pos} : DE X false (.Constant (.bool b) j pos) (tdC (.bl b)) := de_c pe_bl fun _ _ => .bl b
theorem de_non {j pos} : DE X false (.Constant .none j pos) (tdC .non) := de_c pe_non fun _ _ => .non
theorem de_str {x : Str} {j pos} : DE X false (.Constant (.str x) j pos) (tdC (.str x)) := de_c pe_str fun _ _ => .str x
end
/-! ### several operands -/
abbrev TAd := DSt → (List D → DSt → Prop) → Prop
/-- all of them data -/
structure DAs (X : Cx) (es : List Expr) (td : TAd) : Prop where
  ex : ∃ t, PA X es t ∧ ∀ (r : Rp) (S : Addr → Prop) (σ : L2.St) (H : Hp) (δ : DSt) (A : Own) (Q : List V → Hp → Prop) (Qd : List D → DSt → Prop), StAt X.K r S H σ δ A → td δ Qd →
    (∀ vs H' ds δ' A', Ext r S A H A' H' → StAt X.K r S H' σ δ' A' → AtL X.K r (hid (sa S A') H') vs ds → Qd ds δ' → Q vs H') → t σ H Q
def tdNil : TAd := fun δ Q => Q [] δ
def tdCons (td : TEd) (tr : TAd) : TAd := fun δ Q => td δ fun d δ1 => tr δ1 fun ds δ2 => Q (d :: ds) δ2
section
variable {X : Cx}
theorem da_nil : DAs X [] tdNil := ⟨_, pa_nil, fun r S σ H δ A Q Qd st w k => k [] H [] δ A .refl st .nil w⟩
theorem da_cons {fr : Bool} {e : Expr} {es : List Expr} {td : TEd} {tr : TAd} (h : DE X fr e td) (hr : DAs X es tr) (hs : starEach (e :: es) X.env = (false, eval e X.env) :: starEach es X.env := by rfl) : DAs X (e :: es) (tdCons td tr) := by
  obtain ⟨t, p, g⟩ := h.ex
  obtain ⟨u, p2, g2⟩ := hr.ex
  refine ⟨_, pa_cons p p2 hs, fun r S σ H δ A Q Qd st w k => ?_⟩
  refine g r S σ H δ A _ _ st w fun v H1 d δ1 A1 x1 st1 is1 _ q1 => ?_
  refine g2 r S σ H1 δ1 A1 _ _ st1 q1 fun vs H2 ds δ2 A2 x2 st2 is2 q2 => ?_
  exact k (v :: vs) H2 (d :: ds) δ2 A2 (x1.trans x2) st2 (.cons (is1.at_.same x2.vis) is2) q2
end
end DL

set_option Elab.async false
set_option linter.all false
set_option maxRecDepth 100000
set_option maxHeartbeats 4000000
namespace DL
open PySem PySem.Spec L2 PSG
/-! ### operators -/
abbrev P2 := D → D → (D → Prop) → Prop
def R2D (K : PySem.W.Frag) (fr : Bool) (rr : R2) (p : P2) : Prop := ∀ (r : Rp) (S : Addr → Prop) (H : Hp) (x y : V) (a b : D) (Q : VK) (Qd : D → Prop), There S H → AtP K r S H x a → AtP K r S H y b → p a b Qd →
  (∀ v H' d, Same H H' → Is fr K r S H H' v d → Qd d → Q v H') → rr x y H Q
def tdOp (p : P2) (pa pb : TPd) : TEd := fun δ Q => pa δ fun La δ1 => pb δ1 fun Lb δ2 => match La δ2, Lb δ2 with
  | some x, some y => p x y fun d => Q d δ2
  | _, _ => False
section
variable {X : Cx} {fr : Bool}
/-- the lemma for all operators of two operands -/
theorem op2 {rr : R2} {p : P2} {e : Expr} {ta tb : TE} {pa pb : TPd} {t : TE} (he : PE X e t) (ht : ∀ σ H Q, (ta σ H fun x H1 => tb σ H1 fun y H2 => rr x y H2 Q) → t σ H Q) (hp : R2D X.K fr rr p)
    (ga : ∀ (r : Rp) (S : Addr → Prop) (σ : L2.St) (H : Hp) (δ : DSt) (A : Own) (Q : VK) (Qd : Lt → DSt → Prop), StAt X.K r S H σ δ A → pa δ Qd →
      (∀ v H' L δ' A', Ext r S A H A' H' → StAt X.K r S H' σ δ' A' → Late X.K r S σ v L A' H' → Qd L δ' → Q v H') → ta σ H Q)
    (gb : ∀ (r : Rp) (S : Addr → Prop) (σ : L2.St) (H : Hp) (δ : DSt) (A : Own) (Q : VK) (Qd : Lt → DSt → Prop), StAt X.K r S H σ δ A → pb δ Qd →
      (∀ v H' L δ' A', Ext r S A H A' H' → StAt X.K r S H' σ δ' A' → Late X.K r S σ v L A' H' → Qd L δ' → Q v H') → tb σ H Q) : DE X fr e (tdOp p pa pb) := by
  refine ⟨t, he, fun r S σ H δ A Q Qd st w k => ht σ H Q ?_⟩
  refine ga r S σ H δ A _ _ st w fun x H1 La δ1 A1 x1 st1 la w1 => ?_
  refine gb r S σ H1 δ1 A1 _ _ st1 w1 fun y H2 Lb δ2 A2 x2 st2 lb w2 => ?_
  cases ea : La δ2 with
  | none => rw [ea] at w2; exact w2.elim
  | some a =>
    cases eb : Lb δ2 with
    | none => rw [ea, eb] at w2; exact w2.elim
    | some b =>
      rw [ea, eb] at w2
      refine hp r (sa S A2) H2 x y a b Q _ st2.thereA (la _ _ _ _ x2 st2 ea) (lb _ _ _ _ .refl st2 eb) w2 fun v H' d s is q => ?_
      refine k v H' d δ2 A2 ((x1.trans x2).then s) (st2.same s) ⟨is.at_, fun f => ?_⟩ (fun f p' e0 => ?_) q
      rotate_left
      · obtain ⟨p, e1, e2, e3⟩ := is.new f
        rw [e0] at e1
        cases e1
        exact st2.goH (.of s) (fun a z => ((st2.same s).pot a z).2) e2 e3.some
      obtain ⟨p, e1, e2, e3⟩ := is.new f
      refine ⟨p, e1, ?_, e3⟩
      cases q0 : H p with
      | none => rfl
      | some o =>
        obtain ⟨o', e'⟩ := (x1.trans x2).al p o q0
        rw [e2] at e'
        cases e'
theorem de_op {op : Operator} {rr : R2} {p : P2} {a b : Expr} {pa pb : TPd} {pos : Pos} (ho : OpR X (binaryOp op) rr) (hp : R2D X.K fr rr p) (ha : DP X a pa) (hb : DP X b pb) : DE X fr (.BinOp a op b pos) (tdOp p pa pb) := by
  obtain ⟨ta, pa', ga⟩ := ha.ex
  obtain ⟨tb, pb', gb⟩ := hb.ex
  exact op2 (pe_op ho pa' pb') (fun _ _ _ h => h) hp ga gb
theorem de_cmp {op : CmpOp} {rr : R2} {p : P2} {a b : Expr} {pa pb : TPd} {pos : Pos} (ho : OpR X (compareOp op) rr) (hp : R2D X.K fr rr p) (ha : DP X a pa) (hb : DP X b pb) (hm : behindInMarks op b = false) : DE X fr (.Compare a [op] [b] pos) (tdOp p pa pb) := by
  obtain ⟨ta, pa', ga⟩ := ha.ex
  obtain ⟨tb, pb', gb⟩ := hb.ex
  exact op2 (pe_cmpR ho pa' pb' hm) (fun _ _ _ h => h) hp ga gb
theorem de_ix {rr : R2} {p : P2} {a b : Expr} {pa pb : TPd} {pos : Pos} (ho : IxR X rr) (hp : R2D X.K fr rr p) (ha : DP X a pa) (hb : DP X b pb) (hs : PlainIx b) : DE X fr (.Subscript a b pos) (tdOp p pa pb) := by
  obtain ⟨ta, pa', ga⟩ := ha.ex
  obtain ⟨tb, pb', gb⟩ := hb.ex
  exact op2 (pe_ix ho pa' pb' hs) (fun _ _ _ h => h) hp ga gb
end
/-! #### what operators give -/
section
variable {K : PySem.W.Frag}
def pII (C : Int → Int → Prop) (g : Int → Int → D) : P2 := fun a b Q => match a, b with
  | .int i, .int j => C i j ∧ Q (g i j)
  | _, _ => False
def pII0 (g : Int → Int → D) : P2 := fun a b Q => match a, b with
  | .int i, .int j => Q (g i j)
  | _, _ => False
def pSS (C : Str → Str → Prop) (g : Str → Str → D) : P2 := fun a b Q => match a, b with
  | .str i, .str j => C i j ∧ Q (g i j)
  | _, _ => False
theorem r2_II {C : Int → Int → Prop} {g : Int → Int → V} {gd : Int → Int → D} (h : ∀ r H i j, At K r H (g i j) (gd i j)) : R2D K false (rI C g) (pII C gd) := by
  intro r S H x y a b Q Qd th ha hb w k
  cases a with
  | int i =>
    cases b with
    | int j =>
      obtain rfl := ha.int
      obtain rfl := hb.int
      exact ⟨i, j, rfl, rfl, w.1, k _ H _ (Same.refl _) (.of (h _ _ _ _)) w.2⟩
    | _ => exact w.elim
  | _ => exact w.elim
theorem r2_II0 {g : Int → Int → V} {gd : Int → Int → D} (h : ∀ r H i j, At K r H (g i j) (gd i j)) : R2D K false (rI0 g) (pII0 gd) := by
  intro r S H x y a b Q Qd th ha hb w k
  cases a with
  | int i =>
    cases b with
    | int j =>
      obtain rfl := ha.int
      obtain rfl := hb.int
      exact ⟨i, j, rfl, rfl, k _ H _ (Same.refl _) (.of (h _ _ _ _)) w⟩
    | _ => exact w.elim
  | _ => exact w.elim
theorem r2_add : R2D K false (rI0 fun i j => .int (i + j)) (pII0 fun i j => .int (i + j)) := r2_II0 fun _ _ _ _ => .int _
theorem r2_sub : R2D K false (rI0 fun i j => .int (i - j)) (pII0 fun i j => .int (i - j)) := r2_II0 fun _ _ _ _ => .int _
theorem r2_mul : R2D K false (rI CMul fun i j => .int (i * j)) (pII CMul fun i j => .int (i * j)) := r2_II fun _ _ _ _ => .int _
theorem r2_fdiv : R2D K false (rI CDiv fun i j => .int (i / j)) (pII CDiv fun i j => .int (i / j)) := r2_II fun _ _ _ _ => .int _
theorem r2_mod : R2D K false (rI (fun _ j => 0 < j) fun i j => .int (i % j)) (pII (fun _ j => 0 < j) fun i j => .int (i % j)) := r2_II fun _ _ _ _ => .int _
theorem r2_pow : R2D K false (rI CPow fun i j => .int (i ^ j.toNat)) (pII CPow fun i j => .int (i ^ j.toNat)) := r2_II fun _ _ _ _ => .int _
theorem r2_lt : R2D K false (rI0 fun i j => .bl (decide (i < j))) (pII0 fun i j => .bl (decide (i < j))) := r2_II0 fun _ _ _ _ => .bl _
theorem r2_le : R2D K false (rI0 fun i j => .bl (decide (i ≤ j))) (pII0 fun i j => .bl (decide (i ≤ j))) := r2_II0 fun _ _ _ _ => .bl _
theorem r2_gt : R2D K false (rI0 fun i j => .bl (decide (j < i))) (pII0 fun i j => .bl (decide (j < i))) := r2_II0 fun _ _ _ _ => .bl _
theorem r2_ge : R2D K false (rI0 fun i j => .bl (decide (j ≤ i))) (pII0 fun i j => .bl (decide (j ≤ i))) := r2_II0 fun _ _ _ _ => .bl _
theorem r2_addS : R2D K false (fun x y H Q => ∃ i j, x = .str i ∧ y = .str j ∧ i.length + j.length ≤ sizeLine ∧ Q (.str (i ++ j)) H) (pSS (fun i j => i.length + j.length ≤ sizeLine) fun i j => .str (i ++ j)) := by
  intro r S H x y a b Q Qd th ha hb w k
  cases a with
  | str i =>
    cases b with
    | str j =>
      obtain rfl := ha.str
      obtain rfl := hb.str
      exact ⟨i, j, rfl, rfl, w.1, k _ H _ (Same.refl _) (.of (.str _)) w.2⟩
    | _ => exact w.elim
  | _ => exact w.elim
/-- a letter in a text -/
def pInS (neg : Bool) : P2 := fun a b Q => match a, b with
  | .str x, .str z => ∃ c, x = ⟨#[c]⟩ ∧ Q (.bl (if neg then !decide (c ∈ z.cps.toList) else decide (c ∈ z.cps.toList)))
  | _, _ => False
theorem r2_inS : R2D K false (fun x y H Q => ∃ (c : Nat) (z : Str), x = .str ⟨#[c]⟩ ∧ y = .str z ∧ Q (.bl (decide (c ∈ z.cps.toList))) H) (pInS false) := by
  intro r S H x y a b Q Qd th ha hb w k
  cases a with
  | str i =>
    cases b with
    | str j =>
      obtain rfl := ha.str
      obtain rfl := hb.str
      obtain ⟨c, rfl, w⟩ := w
      exact ⟨c, j, rfl, rfl, k _ H _ (Same.refl _) (.of (.bl _)) w⟩
    | _ => exact w.elim
  | _ => exact w.elim
theorem r2_ninS : R2D K false (fun x y H Q => ∃ (c : Nat) (z : Str), x = .str ⟨#[c]⟩ ∧ y = .str z ∧ Q (.bl (!decide (c ∈ z.cps.toList))) H) (pInS true) := by
  intro r S H x y a b Q Qd th ha hb w k
  cases a with
  | str i =>
    cases b with
    | str j =>
      obtain rfl := ha.str
      obtain rfl := hb.str
      obtain ⟨c, rfl, w⟩ := w
      exact ⟨c, j, rfl, rfl, k _ H _ (Same.refl _) (.of (.bl _)) w⟩
    | _ => exact w.elim
  | _ => exact w.elim
/-- flat data as a value -/
def D.v : D → V
  | .bl b => .bl b
  | .int i => .int i
  | .str x => .str x
  | _ => .non
def D.flat : D → Bool
  | .non => true
  | .bl _ => true
  | .int _ => true
  | .str _ => true
  | _ => false
theorem At.flat {r : Rp} {H : Hp} {v : V} {d : D} (h : At K r H v d) (f : d.flat = true) : v = d.v := by
  cases h <;> first | rfl | cases f
theorem AtP.flat {r : Rp} {S : Addr → Prop} {H : Hp} {v : V} {d : D} (h : AtP K r S H v d) (f : d.flat = true) : v = d.v := h.all.flat f
theorem flat_v {d : D} (f : d.flat = true) : flatV d.v = true := by cases d <;> first | rfl | cases f
theorem AtL.flat {r : Rp} {H : Hp} : ∀ {vs : List V} {ds : List D}, AtL K r H vs ds → ds.all D.flat = true → vs = ds.map D.v
  | _, _, .nil, _ => rfl
  | _, _, .cons h t, f => by
    rw [List.all_cons, Bool.and_eq_true] at f
    rw [List.map_cons, ← AtL.flat t f.2, h.flat f.1]
theorem all_flat_v {ds : List D} (f : ds.all D.flat = true) : (ds.map D.v).all flatV = true := by
  rw [List.all_map, List.all_eq_true]
  exact fun d hd => flat_v (List.all_eq_true.mp f d hd)
/-- == of scalars -/
def pEq (neg : Bool) : P2 := fun a b Q => a.flat = true ∧ b.flat = true ∧ scal a.v b.v = true ∧ Q (.bl (if neg then !decide (a.v = b.v) else decide (a.v = b.v)))
theorem r2_eq : R2D K false rEq (pEq false) := by
  intro r S H x y a b Q Qd th ha hb ⟨fa, fb, sc, w⟩ k
  obtain rfl := ha.flat fa
  obtain rfl := hb.flat fb
  exact ⟨sc, k _ H _ (Same.refl _) (.of (.bl _)) w⟩
theorem r2_ne : R2D K false rNe (pEq true) := by
  intro r S H x y a b Q Qd th ha hb ⟨fa, fb, sc, w⟩ k
  obtain rfl := ha.flat fa
  obtain rfl := hb.flat fb
  exact ⟨sc, k _ H _ (Same.refl _) (.of (.bl _)) w⟩

mutual
def D.py : D → PyData
  | .non => .none
  | .bl b => .bool b
  | .int i => .int i
  | .str x => .str x
  | .lst xs => .list (D.pys xs)
  | .tup xs => .tuple (D.pys xs)
  | .dic kvs => .dict (D.pyk kvs)
  | _ => .none
def D.pys : List D → List PyData
  | [] => []
  | x :: xs => x.py :: D.pys xs
def D.pyk : List (Key × D) → List (PyData × PyData)
  | [] => []
  | (k, x) :: xs => (keyD k, x.py) :: D.pyk xs
end
mutual

def D.plain : D → Bool
  | .non => true
  | .bl _ => true
  | .int _ => true
  | .str _ => true
  | .lst xs => D.plains xs
  | .tup xs => D.plains xs
  | _ => false
def D.plains : List D → Bool
  | [] => true
  | x :: xs => x.plain && D.plains xs
end
mutual
theorem At.dp {r : Rp} {H : Hp} : ∀ {d : D} {v : V}, At K r H v d → d.plain = true → Dp K H v d.py
  | .non, _, .non, _ => by unfold D.py; exact .non
  | .bl _, _, .bl b, _ => by unfold D.py; exact .bl b
  | .int _, _, .int b, _ => by unfold D.py; exact .int b
  | .str _, _, .str b, _ => by unfold D.py; exact .str b
  | .lst ds, _, .lst e t, p => by
    unfold D.py
    unfold D.plain at p
    exact .lst (SqL.of e) (AtL.dp t p)
  | .tup ds, _, .tup e t, p => by
    unfold D.py
    unfold D.plain at p
    exact .tup e (AtL.dp t p)
  | .dic _, _, _, p => by unfold D.plain at p; cases p
  | .pot, _, _, p => by unfold D.plain at p; cases p
  | .obj _ _, _, _, p => by unfold D.plain at p; cases p
  | .set _, _, _, p => by unfold D.plain at p; cases p
theorem AtL.dp {r : Rp} {H : Hp} : ∀ {ds : List D} {vs : List V}, AtL K r H vs ds → D.plains ds = true → DpAll K H vs (D.pys ds)
  | [], _, .nil, _ => by unfold D.pys; exact .nil
  | d :: ds, _, .cons h t, p => by
    unfold D.plains at p
    rw [Bool.and_eq_true] at p
    unfold D.pys
    exact .cons (At.dp h p.1) (AtL.dp t p.2)
end
def D.nice (d : D) : Bool := d.plain && SeqAt.shaped d.py
theorem D.nice_of {d : D} (h : d.nice = true) : d.plain = true ∧ SeqAt.shaped d.py = true := (Bool.and_eq_true _ _).mp h
/-- == of data -/
def pEqD (neg : Bool) : P2 := fun a b Q => a.nice = true ∧ b.nice = true ∧ Q (.bl (if neg then !PyData.eqv a.py b.py else PyData.eqv a.py b.py))
theorem r2_eqD : R2D K false (rEqD K) (pEqD false) := by
  intro r S H x y a b Q Qd th ha hb ⟨fa, fb, w⟩ k
  exact ⟨_, _, ha.all.dp (D.nice_of fa).1, hb.all.dp (D.nice_of fb).1, (D.nice_of fa).2, (D.nice_of fb).2, k _ H _ (Same.refl _) (.of (.bl _)) w⟩
theorem r2_neD : R2D K false (rNeD K) (pEqD true) := by
  intro r S H x y a b Q Qd th ha hb ⟨fa, fb, w⟩ k
  exact ⟨_, _, ha.all.dp (D.nice_of fa).1, hb.all.dp (D.nice_of fb).1, (D.nice_of fa).2, (D.nice_of fb).2, k _ H _ (Same.refl _) (.of (.bl _)) w⟩
/-- flat data in a list or a tuple of such -/
def pIn (neg : Bool) : P2 := fun a b Q => match b with
  | .lst ds => a.flat = true ∧ ds.all D.flat = true ∧ Q (.bl (if neg then !inV a.v (ds.map D.v) else inV a.v (ds.map D.v)))
  | .tup ds => a.flat = true ∧ ds.all D.flat = true ∧ Q (.bl (if neg then !inV a.v (ds.map D.v) else inV a.v (ds.map D.v)))
  | _ => False
theorem r2_in {neg : Bool} : R2D K false (rIn K neg) (pIn neg) := by
  intro r S H x y a b Q Qd th ha hb w k
  cases b with
  | lst ds =>
    obtain ⟨fa, fb, w⟩ := w
    obtain ⟨p, xs, rfl, e, t⟩ := hb.list
    obtain rfl := ha.flat fa
    obtain rfl := t.flat fb
    exact ⟨p, _, rfl, .inl (SqL.of e), flat_v fa, all_flat_v fb, k _ H _ (Same.refl _) (.of (.bl _)) w⟩
  | tup ds =>
    obtain ⟨fa, fb, w⟩ := w
    obtain ⟨p, xs, rfl, e, t⟩ := hb.tuple
    obtain rfl := ha.flat fa
    obtain rfl := t.flat fb
    exact ⟨p, _, rfl, .inr e, flat_v fa, all_flat_v fb, k _ H _ (Same.refl _) (.of (.bl _)) w⟩
  | _ => exact w.elim
/-- data in a list, deep -/
def pInD (neg : Bool) : P2 := fun a b Q => match b with
  | .lst ds => a.nice = true ∧ (D.lst ds).nice = true ∧ Q (.bl (if neg then !(D.pys ds).any fun z => PyData.eqv z a.py else (D.pys ds).any fun z => PyData.eqv z a.py))
  | _ => False
theorem r2_inD : R2D K false (rInD K) (pInD false) := by
  intro r S H x y a b Q Qd th ha hb w k
  cases b with
  | lst ds =>
    obtain ⟨fa, fb, w⟩ := w
    have z := hb.all.dp (D.nice_of fb).1
    have z2 := (D.nice_of fb).2
    unfold D.py at z z2
    exact ⟨_, _, ha.all.dp (D.nice_of fa).1, z, (D.nice_of fa).2, z2, k _ H _ (Same.refl _) (.of (.bl _)) w⟩
  | _ => exact w.elim
theorem r2_ninD : R2D K false (rNotInD K) (pInD true) := by
  intro r S H x y a b Q Qd th ha hb w k
  cases b with
  | lst ds =>
    obtain ⟨fa, fb, w⟩ := w
    have z := hb.all.dp (D.nice_of fb).1
    have z2 := (D.nice_of fb).2
    unfold D.py at z z2
    exact ⟨_, _, ha.all.dp (D.nice_of fa).1, z, (D.nice_of fa).2, z2, k _ H _ (Same.refl _) (.of (.bl _)) w⟩
  | _ => exact w.elim
/-- is None -/
def D.isN : D → Bool
  | .non => true
  | _ => false
theorem At.isN {r : Rp} {H : Hp} {v : V} {d : D} (h : At K r H v d) : decide (v = .non) = d.isN := by
  cases h <;> first | exact decide_eq_true rfl | exact decide_eq_false (fun z => nomatch z)
def pIsN (neg : Bool) : P2 := fun a b Q => match b with
  | .non => Q (.bl (if neg then !a.isN else a.isN))
  | _ => False
theorem r2_isN : R2D K false (fun x y H Q => y = .non ∧ Q (.bl (decide (x = .non))) H) (pIsN false) := by
  intro r S H x y a b Q Qd th ha hb w k
  cases b with
  | non =>
    refine ⟨hb.non, ?_⟩
    rw [ha.all.isN]
    exact k _ H _ (Same.refl _) (.of (.bl _)) w
  | _ => exact w.elim
theorem r2_notN : R2D K false (fun x y H Q => y = .non ∧ Q (.bl (!decide (x = .non))) H) (pIsN true) := by
  intro r S H x y a b Q Qd th ha hb w k
  cases b with
  | non =>
    refine ⟨hb.non, ?_⟩
    rw [ha.all.isN]
    exact k _ H _ (Same.refl _) (.of (.bl _)) w
  | _ => exact w.elim
/-! #### new lists and tuples -/
theorem Is.newL {r : Rp} {S : Addr → Prop} {H : Hp} {p : Addr} {xs : List V} {ds : List D} (th : There S H) (hp : H p = none) (t : AtL K r (hid S H) xs ds) : Is true K r S H (upd H p (.lst xs)) (.ref p) (.lst ds) := by
  have s := same_new (o := .lst xs) hp
  have t' := t.same (hid_same (S := S) s)
  refine ⟨.lst ((hid_no (th.free hp)).trans upd_same) t', fun _ => ⟨p, rfl, hp, .inl ⟨xs, ds, rfl, upd_same, ?_⟩⟩⟩
  refine t.same fun b o e => ?_
  obtain ⟨n, e⟩ := hid_of e
  have ne : b ≠ p := ne_of_none e hp
  rw [hid_no fun z => z.elim n ne]
  exact s _ _ e
theorem Is.newT {r : Rp} {S : Addr → Prop} {H : Hp} {p : Addr} {xs : List V} {ds : List D} (th : There S H) (hp : H p = none) (t : AtL K r (hid S H) xs ds) : Is false K r S H (upd H p (.tup xs)) (.ref p) (.tup ds) :=
  .of (.tup (SqT.of ((hid_no (th.free hp)).trans upd_same)) (t.same (hid_same (same_new hp))))
/-- list + list -/
def pCat : P2 := fun a b Q => match a, b with
  | .lst xs, .lst ys => xs.length + ys.length ≤ sizeLine ∧ Q (.lst (xs ++ ys))
  | _, _ => False
theorem r2_cat : R2D K true rCat pCat := by
  intro r S H x y a b Q Qd th ha hb w k
  cases a with
  | lst ds =>
    cases b with
    | lst es =>
      obtain ⟨l, w⟩ := w
      obtain ⟨p, xs, rfl, e1, t1⟩ := ha.list
      obtain ⟨q, ys, rfl, e2, t2⟩ := hb.list
      refine ⟨p, q, xs, ys, rfl, rfl, e1, e2, by rw [t1.length, t2.length]; exact l, fun z hz => k _ _ _ (same_new hz) (.newL th hz (t1.append t2)) w⟩
    | _ => exact w.elim
  | _ => exact w.elim
/-- tuple + tuple -/
def pCatT : P2 := fun a b Q => match a, b with
  | .tup xs, .tup ys => xs.length + ys.length ≤ sizeLine ∧ Q (.tup (xs ++ ys))
  | _, _ => False
theorem r2_catT : R2D K false (rCatA K) pCatT := by
  intro r S H x y a b Q Qd th ha hb w k
  cases a with
  | tup ds =>
    cases b with
    | tup es =>
      obtain ⟨l, w⟩ := w
      have ha' := ha.all
      have hb' := hb.all
      obtain ⟨p, xs, rfl, e1, t1⟩ := ha.tuple
      obtain ⟨q, ys, rfl, e2, t2⟩ := hb.tuple
      refine ⟨p, q, xs, ys, rfl, rfl, e1, e2, by rw [t1.length, t2.length]; exact l, fun z => ?_, fun _ z => ?_, fun _ _ z hz => k _ _ _ (same_new hz) (.newT th hz (t1.append t2)) w⟩
      · subst z
        have e0 : ds = [] := List.length_eq_zero_iff.mp t1.length.symm
        subst e0
        cases hb with
        | top t => rcases t with ⟨_, _, e, _⟩ | ⟨_, _, e, _⟩ <;> cases e
        | at_ t => exact k _ H _ (Same.refl _) (.of t) w
      · subst z
        have e0 : es = [] := List.length_eq_zero_iff.mp t2.length.symm
        subst e0
        cases ha with
        | top t => rcases t with ⟨_, _, e, _⟩ | ⟨_, _, e, _⟩ <;> cases e
        | at_ t => exact k _ H _ (Same.refl _) (.of t) (by rw [List.append_nil] at w; exact w)
    | _ => exact w.elim
  | _ => exact w.elim
/-- xs[i] -/
def pIxL : P2 := fun a b Q => match a, b with
  | .lst xs, .int i => ∃ d, atI xs i = some d ∧ Q d
  | _, _ => False
def pIxT : P2 := fun a b Q => match a, b with
  | .tup xs, .int i => ∃ d, atI xs i = some d ∧ Q d
  | _, _ => False
def pIxS : P2 := fun a b Q => match a, b with
  | .str z, .int i => z.length ≤ sizeLine ∧ ∃ c, atI z.cps.toList i = some c ∧ Q (.str ⟨#[c]⟩)
  | _, _ => False
theorem AtL.atI {r : Rp} {H : Hp} {vs : List V} {ds : List D} {i : Int} {d : D} (t : AtL K r H vs ds) (e : L2.atI ds i = some d) : ∃ v, L2.atI vs i = some v ∧ At K r H v d := by
  unfold L2.atI at e ⊢
  rw [t.length]
  cases q : ixN ds.length i with
  | none => rw [q] at e; cases e
  | some j =>
    rw [q] at e
    exact t.get e
theorem r2_ixL : R2D K false (rIxL K) pIxL := by
  intro r S H x y a b Q Qd th ha hb w k
  cases a with
  | lst ds =>
    cases b with
    | int i =>
      obtain ⟨d, e, w⟩ := w
      obtain ⟨p, xs, rfl, e1, t⟩ := ha.list
      obtain rfl := hb.int
      obtain ⟨v, ev, t2⟩ := t.atI e
      exact ⟨p, xs, i, v, rfl, rfl, SqL.of e1, ev, k _ H _ (Same.refl _) (.of t2) w⟩
    | _ => exact w.elim
  | _ => exact w.elim
theorem r2_ixT : R2D K false (rIxT K) pIxT := by
  intro r S H x y a b Q Qd th ha hb w k
  cases a with
  | tup ds =>
    cases b with
    | int i =>
      obtain ⟨d, e, w⟩ := w
      obtain ⟨p, xs, rfl, e1, t⟩ := ha.tuple
      obtain rfl := hb.int
      obtain ⟨v, ev, t2⟩ := t.atI e
      exact ⟨p, xs, i, v, rfl, rfl, e1, ev, k _ H _ (Same.refl _) (.of t2) w⟩
    | _ => exact w.elim
  | _ => exact w.elim
theorem r2_ixS : R2D K false rIxS pIxS := by
  intro r S H x y a b Q Qd th ha hb w k
  cases a with
  | str z =>
    cases b with
    | int i =>
      obtain ⟨l, c, e, w⟩ := w
      obtain rfl := ha.str
      obtain rfl := hb.int
      exact ⟨z, i, c, rfl, rfl, l, e, k _ H _ (Same.refl _) (.of (.str _)) w⟩
    | _ => exact w.elim
  | _ => exact w.elim
end
end DL

set_option Elab.async false
set_option linter.all false
set_option maxRecDepth 100000
set_option maxHeartbeats 4000000
namespace DL
open PySem PySem.Spec L2 PSG
/-! ### operands in a row -/
abbrev TPs := DSt → (List Lt → DSt → Prop) → Prop
inductive LateL (K : PySem.W.Frag) (r : Rp) (S : Addr → Prop) (σ : L2.St) (A : Own) (H : Hp) : List V → List Lt → Prop
  | nil : LateL K r S σ A H [] []
  | cons {v : V} {vs : List V} {L : Lt} {Ls : List Lt} : Late K r S σ v L A H → LateL K r S σ A H vs Ls → LateL K r S σ A H (v :: vs) (L :: Ls)
theorem LateL.on {K : PySem.W.Frag} {r : Rp} {S : Addr → Prop} {σ : L2.St} {A A' : Own} {H H' : Hp} (x : Ext r S A H A' H') : ∀ {vs : List V} {Ls : List Lt}, LateL K r S σ A H vs Ls → LateL K r S σ A' H' vs Ls
  | _, _, .nil => .nil
  | _, _, .cons h t => .cons (h.on x) (LateL.on x t)
/-- all of them, read at the end -/
def getL : List Lt → DSt → Option (List D)
  | [], _ => some []
  | L :: Ls, δ => match L δ, getL Ls δ with
    | some d, some ds => some (d :: ds)
    | _, _ => none
inductive AtPs (K : PySem.W.Frag) (r : Rp) (S : Addr → Prop) (H : Hp) : List V → List D → Prop
  | nil : AtPs K r S H [] []
  | cons {v : V} {vs : List V} {d : D} {ds : List D} : AtP K r S H v d → AtPs K r S H vs ds → AtPs K r S H (v :: vs) (d :: ds)
theorem LateL.get {K : PySem.W.Frag} {r : Rp} {S : Addr → Prop} {σ : L2.St} {A A2 : Own} {H H2 : Hp} {δ2 : DSt} (x : Ext r S A H A2 H2) (st : StAt K r S H2 σ δ2 A2) :
    ∀ {vs : List V} {Ls : List Lt} {ds : List D}, LateL K r S σ A H vs Ls → getL Ls δ2 = some ds → AtPs K r (sa S A2) H2 vs ds
  | _, _, ds, .nil, e => by
    cases e
    exact .nil
  | _, _, ds, .cons (L := L) (Ls := Ls) h t, e => by
    unfold getL at e
    cases e1 : L δ2 with
    | none => rw [e1] at e; cases e
    | some d =>
      cases e2 : getL Ls δ2 with
      | none => rw [e1, e2] at e; cases e
      | some es =>
        rw [e1, e2] at e
        cases e
        exact .cons (h _ _ _ _ x st e1) (LateL.get x st t e2)
structure DPs (X : Cx) (es : List Expr) (td : TPs) : Prop where
  ex : ∃ t, PA X es t ∧ ∀ (r : Rp) (S : Addr → Prop) (σ : L2.St) (H : Hp) (δ : DSt) (A : Own) (Q : List V → Hp → Prop) (Qd : List Lt → DSt → Prop), StAt X.K r S H σ δ A → td δ Qd →
    (∀ vs H' Ls δ' A', Ext r S A H A' H' → StAt X.K r S H' σ δ' A' → LateL X.K r S σ A' H' vs Ls → Qd Ls δ' → Q vs H') → t σ H Q
def pdNil : TPs := fun δ Q => Q [] δ
def pdCons (td : TPd) (tr : TPs) : TPs := fun δ Q => td δ fun d δ1 => tr δ1 fun ds δ2 => Q (d :: ds) δ2
section
variable {X : Cx}
theorem dps_nil : DPs X [] pdNil := ⟨_, pa_nil, fun r S σ H δ A Q Qd st w k => k [] H [] δ A .refl st .nil w⟩
theorem dps_cons {e : Expr} {es : List Expr} {td : TPd} {tr : TPs} (h : DP X e td) (hr : DPs X es tr) (hs : starEach (e :: es) X.env = (false, eval e X.env) :: starEach es X.env := by rfl) : DPs X (e :: es) (pdCons td tr) := by
  obtain ⟨t, p, g⟩ := h.ex
  obtain ⟨u, p2, g2⟩ := hr.ex
  refine ⟨_, pa_cons p p2 hs, fun r S σ H δ A Q Qd st w k => ?_⟩
  refine g r S σ H δ A _ _ st w fun v H1 d δ1 A1 x1 st1 is1 q1 => ?_
  refine g2 r S σ H1 δ1 A1 _ _ st1 q1 fun vs H2 ds δ2 A2 x2 st2 is2 q2 => ?_
  exact k (v :: vs) H2 (d :: ds) δ2 A2 (x1.trans x2) st2 (.cons (is1.on x2) is2) q2
end
/-! ### calls of what is built in -/
abbrev PL := List D → (D → Prop) → Prop
def CD (K : PySem.W.Frag) (fr : Bool) (rr : List V → Hp → VK → Prop) (p : PL) : Prop := ∀ (r : Rp) (S : Addr → Prop) (H : Hp) (vs : List V) (ds : List D) (Q : VK) (Qd : D → Prop), There S H → AtPs K r S H vs ds → p ds Qd →
  (∀ v H' d, Same H H' → Is fr K r S H H' v d → Qd d → Q v H') → rr vs H Q
def tdB (p : PL) (td : TPs) : TEd := fun δ Q => td δ fun Ls δ1 => match getL Ls δ1 with
  | some ds => p ds fun d => Q d δ1
  | none => False
section
variable {X : Cx} {fr : Bool}
theorem callB {rr : List V → Hp → VK → Prop} {p : PL} {e : Expr} {t : TE} {ta : TA} {td : TPs} (he : PE X e t) (ht : ∀ σ H Q, (ta σ H fun vs H1 => rr vs H1 Q) → t σ H Q) (hp : CD X.K fr rr p)
    (g : ∀ (r : Rp) (S : Addr → Prop) (σ : L2.St) (H : Hp) (δ : DSt) (A : Own) (Q : List V → Hp → Prop) (Qd : List Lt → DSt → Prop), StAt X.K r S H σ δ A → td δ Qd →
      (∀ vs H' Ls δ' A', Ext r S A H A' H' → StAt X.K r S H' σ δ' A' → LateL X.K r S σ A' H' vs Ls → Qd Ls δ' → Q vs H') → ta σ H Q) : DE X fr e (tdB p td) := by
  refine ⟨t, he, fun r S σ H δ A Q Qd st w k => ht σ H Q ?_⟩
  refine g r S σ H δ A _ _ st w fun vs H1 Ls δ1 A1 x1 st1 la w1 => ?_
  cases ea : getL Ls δ1 with
  | none => rw [ea] at w1; exact w1.elim
  | some ds =>
    rw [ea] at w1
    refine hp r (sa S A1) H1 vs ds Q _ st1.thereA (la.get .refl st1 ea) w1 fun v H' d s is q => ?_
    refine k v H' d δ1 A1 (x1.then s) (st1.same s) ⟨is.at_, fun f => ?_⟩ (fun f p' e0 => ?_) q
    rotate_left
    · obtain ⟨p, e1, e2, e3⟩ := is.new f
      rw [e0] at e1
      cases e1
      exact st1.goH (.of s) (fun a z => ((st1.same s).pot a z).2) e2 e3.some
    obtain ⟨p, e1, e2, e3⟩ := is.new f
    refine ⟨p, e1, ?_, e3⟩
    cases q0 : H p with
    | none => rfl
    | some o =>
      obtain ⟨o', e'⟩ := x1.al p o q0
      rw [e2] at e'
      cases e'
theorem de_callB {id : String} {rr : List V → Hp → VK → Prop} {p : PL} {x : Str} {e : Expr} {es : List Expr} {td : TPs} {q pos : Pos} (hc : CallR X (.builtin id) rr) (hp : CD X.K fr rr p) (hg : Gl X x) (hm : X.mg x = none) (hv : bootBuiltins x = some (.builtin id))
    (ha : DPs X (e :: es) td) (hn : x ≠ "__name__" := by decide) (hdb : (x == ("__debug__" : Str)) = false := by decide)
    (he : starEach (e :: es) X.env = (false, eval e X.env) :: starEach es X.env := by rfl) (hpl : (backTo pos (starEach es X.env)).any (·.1) = false := by rfl) : DE X fr (.Call (.Name x q) (e :: es) [] pos) (tdB p td) := by
  obtain ⟨ta, pa', g⟩ := ha.ex
  exact callB (pe_callB hc hg hm hv pa' hn hdb he hpl) (fun _ _ _ h => h) hp g
theorem de_callTy {T : String} {rr : List V → Hp → VK → Prop} {p : PL} {x : Str} {e : Expr} {es : List Expr} {td : TPs} {q pos : Pos} (hc : CallR X (.type T) rr) (hp : CD X.K fr rr p) (hg : Gl X x) (hm : X.mg x = none) (hv : bootBuiltins x = some (.type T))
    (ha : DPs X (e :: es) td) (hn : x ≠ "__name__" := by decide) (hdb : (x == ("__debug__" : Str)) = false := by decide)
    (he : starEach (e :: es) X.env = (false, eval e X.env) :: starEach es X.env := by rfl) (hpl : (backTo pos (starEach es X.env)).any (·.1) = false := by rfl) : DE X fr (.Call (.Name x q) (e :: es) [] pos) (tdB p td) := by
  obtain ⟨ta, pa', g⟩ := ha.ex
  exact callB (pe_callTy hc hg hm hv pa' hn hdb he hpl) (fun _ _ _ h => h) hp g
end
section
variable {K : PySem.W.Frag}
theorem AtPs.one {r : Rp} {S : Addr → Prop} {H : Hp} {vs : List V} {d : D} (h : AtPs K r S H vs [d]) : ∃ v, vs = [v] ∧ AtP K r S H v d := by
  cases h with
  | cons h t => cases t; exact ⟨_, rfl, h⟩
theorem AtPs.two {r : Rp} {S : Addr → Prop} {H : Hp} {vs : List V} {d e : D} (h : AtPs K r S H vs [d, e]) : ∃ v w, vs = [v, w] ∧ AtP K r S H v d ∧ AtP K r S H w e := by
  cases h with
  | cons h t =>
    obtain ⟨w, rfl, t2⟩ := t.one
    exact ⟨_, _, rfl, h, t2⟩
def pLen : PL := fun ds Q => match ds with
  | [.lst xs] => Q (.int xs.length)
  | [.tup xs] => Q (.int xs.length)
  | [.str z] => z.length ≤ sizeLine ∧ Q (.int z.length)
  | _ => False
theorem cd_len : CD K false (fun xs H Q => ∃ x n, xs = [x] ∧ LenV K x H n ∧ Q (.int n) H) pLen := by
  intro r S H vs ds Q Qd th at_ w k
  match ds, at_, w with
  | [.lst xs], at_, w =>
    obtain ⟨v, rfl, h⟩ := at_.one
    obtain ⟨a, ys, rfl, e, t⟩ := h.list
    exact ⟨_, ys.length, rfl, .inl ⟨ys, SqL.of e, rfl⟩, k _ H (.int ys.length) (Same.refl _) (.of (.int _)) (by rw [t.length]; exact w)⟩
  | [.tup xs], at_, w =>
    obtain ⟨v, rfl, h⟩ := at_.one
    obtain ⟨a, ys, rfl, e, t⟩ := h.tuple
    exact ⟨_, ys.length, rfl, .inr ⟨ys, e, rfl⟩, k _ H (.int ys.length) (Same.refl _) (.of (.int _)) (by rw [t.length]; exact w)⟩
  | [.str z], at_, w =>
    obtain ⟨v, rfl, h⟩ := at_.one
    obtain rfl := h.str
    exact ⟨_, z.length, rfl, ⟨w.1, rfl⟩, k _ H (.int z.length) (Same.refl _) (.of (.int _)) w.2⟩
def pI1 (g : Int → Int) : PL := fun ds Q => match ds with
  | [.int i] => Q (.int (g i))
  | _ => False
def pI2 (g : Int → Int → Int) : PL := fun ds Q => match ds with
  | [.int i, .int j] => Q (.int (g i j))
  | _ => False
theorem cd_I1 {g : Int → Int} : CD K false (fun xs H Q => ∃ i, xs = [.int i] ∧ Q (.int (g i)) H) (pI1 g) := by
  intro r S H vs ds Q Qd th at_ w k
  match ds, at_, w with
  | [.int i], at_, w =>
    obtain ⟨v, rfl, h⟩ := at_.one
    obtain rfl := h.int
    exact ⟨i, rfl, k _ H _ (Same.refl _) (.of (.int _)) w⟩
theorem cd_I2 {g : Int → Int → Int} : CD K false (fun xs H Q => ∃ i j, xs = [.int i, .int j] ∧ Q (.int (g i j)) H) (pI2 g) := by
  intro r S H vs ds Q Qd th at_ w k
  match ds, at_, w with
  | [.int i, .int j], at_, w =>
    obtain ⟨v, u, rfl, h, h2⟩ := at_.two
    obtain rfl := h.int
    obtain rfl := h2.int
    exact ⟨i, j, rfl, k _ H _ (Same.refl _) (.of (.int _)) w⟩
def pInt : PL := fun ds Q => match ds with
  | [.int i] => Q (.int i)
  | [.bl b] => Q (.int (if b then 1 else 0))
  | _ => False
theorem cd_int : CD K false (fun xs H Q => (∃ i, xs = [.int i] ∧ Q (.int i) H) ∨ ∃ k, xs = [.bl k] ∧ Q (.int (if k then 1 else 0)) H) pInt := by
  intro r S H vs ds Q Qd th at_ w k
  match ds, at_, w with
  | [.int i], at_, w =>
    obtain ⟨v, rfl, h⟩ := at_.one
    obtain rfl := h.int
    exact .inl ⟨i, rfl, k _ H _ (Same.refl _) (.of (.int _)) w⟩
  | [.bl i], at_, w =>
    obtain ⟨v, rfl, h⟩ := at_.one
    obtain rfl := h.bl
    exact .inr ⟨i, rfl, k _ H _ (Same.refl _) (.of (.int _)) w⟩
/-- str(an int) -/
def pStrI : PL := fun ds Q => match ds with
  | [.int i] => i.natAbs.log2 < 1920 ∧ Q (.str (toString i))
  | _ => False
theorem cd_strI : CD K false (fun xs H Q => ∃ i, xs = [.int i] ∧ i.natAbs.log2 < 1920 ∧ Q (.str (toString i)) H) pStrI := by
  intro r S H vs ds Q Qd th at_ w k
  match ds, at_, w with
  | [.int i], at_, w =>
    obtain ⟨v, rfl, h⟩ := at_.one
    obtain rfl := h.int
    exact ⟨i, rfl, w.1, k _ H _ (Same.refl _) (.of (.str _)) w.2⟩
/-- list(xs), tuple(xs) -/
def pList : PL := fun ds Q => match ds with
  | [.lst xs] => Q (.lst xs)
  | [.tup xs] => Q (.lst xs)
  | _ => False
def pTuple : PL := fun ds Q => match ds with
  | [.lst xs] => Q (.tup xs)
  | [.tup xs] => Q (.tup xs)
  | _ => False
theorem cd_list : CD K true (fun xs H Q => ∃ p ys, xs = [.ref p] ∧ (SqL K H p ys ∨ SqT K H p ys) ∧ ∀ l, H l = none → Q (.ref l) (upd H l (.lst ys))) pList := by
  intro r S H vs ds Q Qd th at_ w k
  match ds, at_, w with
  | [.lst xs], at_, w =>
    obtain ⟨v, rfl, h⟩ := at_.one
    obtain ⟨a, ys, rfl, e, t⟩ := h.list
    exact ⟨a, ys, rfl, .inl (SqL.of e), fun l hl => k _ _ _ (same_new hl) (.newL th hl t) w⟩
  | [.tup xs], at_, w =>
    obtain ⟨v, rfl, h⟩ := at_.one
    obtain ⟨a, ys, rfl, e, t⟩ := h.tuple
    exact ⟨a, ys, rfl, .inr e, fun l hl => k _ _ _ (same_new hl) (.newL th hl t) w⟩
theorem AtP.tupAt {r : Rp} {S : Addr → Prop} {H : Hp} {v : V} {ds : List D} (h : AtP K r S H v (.tup ds)) : At K r (hid S H) v (.tup ds) := by
  cases h with
  | top t => rcases t with ⟨_, _, e, _⟩ | ⟨_, _, e, _⟩ <;> cases e
  | at_ t => exact t
theorem cd_tuple : CD K false (fun xs H Q => ∃ p ys, xs = [.ref p] ∧ ((SqL K H p ys ∧ ∀ l, H l = none → Q (.ref l) (upd H l (.tup ys))) ∨ (SqT K H p ys ∧ Q (.ref p) H))) pTuple := by
  intro r S H vs ds Q Qd th at_ w k
  match ds, at_, w with
  | [.lst xs], at_, w =>
    obtain ⟨v, rfl, h⟩ := at_.one
    obtain ⟨a, ys, rfl, e, t⟩ := h.list
    exact ⟨a, ys, rfl, .inl ⟨SqL.of e, fun l hl => k _ _ _ (same_new hl) (.newT th hl t) w⟩⟩
  | [.tup xs], at_, w =>
    obtain ⟨v, rfl, h⟩ := at_.one
    have h2 := h.tupAt
    obtain ⟨a, ys, rfl, e, t⟩ := h.tuple
    exact ⟨a, ys, rfl, .inr ⟨e, k _ H _ (Same.refl _) (.of h2) w⟩⟩
/-- all(bs), any(bs) -/
def D.toB : D → Bool
  | .bl b => b
  | _ => false
def D.isB : D → Bool
  | .bl _ => true
  | _ => false
theorem AtL.bls {r : Rp} {H : Hp} : ∀ {vs : List V} {ds : List D}, AtL K r H vs ds → ds.all D.isB = true → vs = (ds.map D.toB).map V.bl
  | _, _, .nil, _ => rfl
  | _, _, .cons (d := d) h t, f => by
    rw [List.all_cons, Bool.and_eq_true] at f
    rw [List.map_cons, List.map_cons, ← AtL.bls t f.2]
    cases h <;> first | rfl | cases f.1
def pAll : PL := fun ds Q => match ds with
  | [.lst xs] => xs.all D.isB = true ∧ Q (.bl (xs.all D.toB))
  | _ => False
def pAny : PL := fun ds Q => match ds with
  | [.lst xs] => xs.all D.isB = true ∧ Q (.bl (xs.any D.toB))
  | _ => False
theorem cd_all : CD K false (rAll K) pAll := by
  intro r S H vs ds Q Qd th at_ w k
  match ds, at_, w with
  | [.lst xs], at_, w =>
    obtain ⟨v, rfl, h⟩ := at_.one
    obtain ⟨a, ys, rfl, e, t⟩ := h.list
    obtain rfl := t.bls w.1
    refine ⟨a, _, rfl, SqL.of e, k _ H (.bl _) (Same.refl _) (.of (.bl _)) ?_⟩
    rw [List.all_map]
    exact w.2
theorem cd_any : CD K false (rAny K) pAny := by
  intro r S H vs ds Q Qd th at_ w k
  match ds, at_, w with
  | [.lst xs], at_, w =>
    obtain ⟨v, rfl, h⟩ := at_.one
    obtain ⟨a, ys, rfl, e, t⟩ := h.list
    obtain rfl := t.bls w.1
    refine ⟨a, _, rfl, SqL.of e, k _ H (.bl _) (Same.refl _) (.of (.bl _)) ?_⟩
    rw [List.any_map]
    exact w.2
end
section
variable {X : Cx} {pins : List (Addr × Obj)} {σ : L2.St} {H : Hp} {s : Shared} {r : Rp}
mutual
theorem At.reads (I : Inv X pins σ H s) : ∀ {d : D} {v : V} {u : Value}, At X.K r H v d → d.plain = true → RelV v u → ∃ as, Reads s.heap u d.py as
  | .non, _, _, .non, _, r => by cases r; unfold D.py; exact ⟨_, .none⟩
  | .bl _, _, _, .bl b, _, r => by cases r; unfold D.py; exact ⟨_, .bool b⟩
  | .int _, _, _, .int i, _, r => by obtain ⟨t, rfl⟩ := r; unfold D.py; exact ⟨_, .int i t⟩
  | .str _, _, _, .str x, _, r => by obtain ⟨t, rfl⟩ := r; unfold D.py; exact ⟨_, .str x t⟩
  | .lst ds, _, _, .lst (a := a) (xs := xs) e t, p, r => by
    cases r
    unfold D.plain at p
    obtain ⟨_, its, n, rv, ho⟩ := I.hok a (.lst xs) e
    obtain ⟨as, z⟩ := AtL.reads I t p rv
    unfold D.py
    exact ⟨_, Reads.list ho rfl rfl z⟩
  | .tup ds, _, _, .tup (a := a) (xs := xs) e t, p, r => by
    cases r
    unfold D.plain at p
    obtain ⟨its, rv, ⟨o, ho, hc, n, hd⟩, _⟩ := I.tuple e
    obtain ⟨as, z⟩ := AtL.reads I t p rv
    unfold D.py
    exact ⟨_, Reads.tuple ho hc hd z⟩
  | .dic _, _, _, _, p, _ => by unfold D.plain at p; cases p
  | .pot, _, _, _, p, _ => by unfold D.plain at p; cases p
  | .obj _ _, _, _, _, p, _ => by unfold D.plain at p; cases p
  | .set _, _, _, _, p, _ => by unfold D.plain at p; cases p
theorem AtL.reads (I : Inv X pins σ H s) : ∀ {ds : List D} {vs : List V} {us : List Value}, AtL X.K r H vs ds → D.plains ds = true → Vals vs us → ∃ as, ReadsAll s.heap us (D.pys ds) as
  | [], _, _, .nil, _, r => by cases r; unfold D.pys; exact ⟨_, .nil⟩
  | d :: ds, _, _, .cons h t, p, r => by
    cases r with
    | cons r1 r2 =>
      unfold D.plains at p
      rw [Bool.and_eq_true] at p
      obtain ⟨as, z1⟩ := At.reads I h p.1 r1
      obtain ⟨bs, z2⟩ := AtL.reads I t p.2 r2
      unfold D.pys
      exact ⟨_, .cons z1 z2⟩
end
mutual
theorem plain_nodict : ∀ {d : D}, d.plain = true → d.py.hasDict = false
  | .non, _ => by unfold D.py; rfl
  | .bl _, _ => by unfold D.py; rfl
  | .int _, _ => by unfold D.py; rfl
  | .str _, _ => by unfold D.py; rfl
  | .lst ds, p => by unfold D.plain at p; unfold D.py; simpa [PyData.hasDict] using plains_nodict p
  | .tup ds, p => by unfold D.plain at p; unfold D.py; simpa [PyData.hasDict] using plains_nodict p
  | .dic _, p => by unfold D.plain at p; cases p
  | .pot, p => by unfold D.plain at p; cases p
  | .obj _ _, p => by unfold D.plain at p; cases p
  | .set _, p => by unfold D.plain at p; cases p
theorem plains_nodict : ∀ {ds : List D}, D.plains ds = true → PyData.hasDictAll (D.pys ds) = false
  | [], _ => by unfold D.pys; simp [PyData.hasDictAll]
  | d :: ds, p => by
    unfold D.plains at p
    rw [Bool.and_eq_true] at p
    unfold D.pys
    simp [PyData.hasDictAll, plain_nodict p.1, plains_nodict p.2]
end
def rReA (K : PySem.W.Frag) (r : Rp) : List V → Hp → VK → Prop := fun xs H Q => ∃ (x : V) (d : D), xs = [x] ∧ At K r H x d ∧ d.plain = true ∧ d.py.showable = true ∧ d.py.shown.length ≤ sizeLine ∧ d.py.depth ≤ 60 ∧ Q (.str d.py.shown) H
theorem call_reA {n : Nat} (room : Room n X.A) (gd : X.A.guards = some []) : CallR X (.builtin "repr") (fun xs H Q => ∃ r, rReA X.K r xs H Q) := by
  intro pins s σ H xs us Q I r ho
  obtain ⟨rp, x, d, rfl, dq, pl, sh, sz, dp, q⟩ := ho
  cases r with
  | @cons _ u _ ws rx rr =>
    cases rr
    obtain ⟨as, rd⟩ := dq.reads I pl rx
    have nosys : d.py.hasDict = true → sysModules ∉ as := fun z => by rw [plain_nodict pl] at z; cases z
    have un := room.un
    generalize d.py = e at rd nosys sh sz dp q
    cases rd with
    | none =>
      exact P.repr_of_none ⟨.str _, H, I.tok _, ⟨_, rfl⟩, by simpa only [PyData.shown] using q⟩
    | bool b =>
      refine P.repr_of_bool ⟨.str _, H, I.tok _, ⟨_, rfl⟩, ?_⟩
      simp only [PyData.shown] at q
      cases b
      · exact q
      · exact q
    | int i t =>
      exact P.repr_of_int (by simpa [PyData.showable] using sh) ⟨.str _, H, I.tok _, ⟨_, rfl⟩, by simpa only [PyData.shown] using q⟩
    | str z t =>
      simp only [PyData.shown] at q sz
      exact P.repr_of_str ⟨.str _, H, I.tok _, ⟨_, rfl⟩, q⟩ sz
    | list h1 h2 h3 h4 =>
      exact repr_of_reads' (Reads.list h1 h2 h3 h4) sh nosys gd (by omega) (fun _ _ z => z) (fun h' u tk k => ⟨.str _, H, I.kept k, ⟨_, rfl⟩, q⟩) sz
    | tuple h1 h2 h3 h4 =>
      exact repr_of_reads' (Reads.tuple h1 h2 h3 h4) sh nosys gd (by omega) (fun _ _ z => z) (fun h' u tk k => ⟨.str _, H, I.kept k, ⟨_, rfl⟩, q⟩) sz
    | dict h1 h2 h3 h4 h5 =>
      exact repr_of_reads' (Reads.dict h1 h2 h3 h4 h5) sh nosys gd (by omega) (fun _ _ z => z) (fun h' u tk k => ⟨.str _, H, I.kept k, ⟨_, rfl⟩, q⟩) sz
/-- d can be shown -/
structure D.Show (d : D) : Prop where
  pl : d.plain = true
  sh : d.py.showable = true
  ln : d.py.shown.length ≤ sizeLine
  dp : d.py.depth ≤ 60
def pRepr : PL := fun ds Q => match ds with
  | [d] => d.Show ∧ Q (.str d.py.shown)
  | _ => False
theorem cd_repr {K : PySem.W.Frag} : CD K false (fun xs H Q => ∃ r, rReA K r xs H Q) pRepr := by
  intro r S H vs ds Q Qd th at_ w k
  match ds, at_, w with
  | [d], at_, w =>
    obtain ⟨v, rfl, h⟩ := at_.one
    exact ⟨r, v, d, rfl, h.all, w.1.pl, w.1.sh, w.1.ln, w.1.dp, k _ H (.str _) (Same.refl _) (.of (.str _)) w.2⟩
end
end DL

set_option Elab.async false
set_option linter.all false
set_option maxRecDepth 100000
set_option maxHeartbeats 4000000
namespace DL
open PySem PySem.Spec L2 PSG
/-! ### tests -/
abbrev TDt := DSt → (Bool → DSt → Prop) → Prop
structure DT (X : Cx) (e : Expr) (td : TDt) : Prop where
  ex : ∃ t, PT X e t ∧ ∀ (r : Rp) (S : Addr → Prop) (σ : L2.St) (H : Hp) (δ : DSt) (A : Own) (Q : Bool → Hp → Prop) (Qd : Bool → DSt → Prop), StAt X.K r S H σ δ A → td δ Qd →
    (∀ b H' δ' A', Ext r S A H A' H' → StAt X.K r S H' σ δ' A' → Qd b δ' → Q b H') → t σ H Q
/-- .. whatever its whole is -/
structure DW (X : Cx) (e : Expr) (td : TDt) : Prop where
  ex : ∃ t, PW X e t ∧ ∀ (r : Rp) (S : Addr → Prop) (σ : L2.St) (H : Hp) (δ : DSt) (A : Own) (Q : Bool → Hp → Prop) (Qd : Bool → DSt → Prop), StAt X.K r S H σ δ A → td δ Qd →
    (∀ b H' δ' A', Ext r S A H A' H' → StAt X.K r S H' σ δ' A' → Qd b δ' → Q b H') → t σ H Q
/-- a bool's value -/
def onB (d : D) (Q : Bool → Prop) : Prop := match d with
  | .bl b => Q b
  | _ => False
theorem onB_at {K : PySem.W.Frag} {r : Rp} {H : Hp} {v : V} {d : D} {Q : Bool → Prop} (w : onB d Q) (h : At K r H v d) : ∃ b, v = .bl b ∧ d = .bl b ∧ Q b := by
  cases d <;> first | exact w.elim | skip
  cases h
  exact ⟨_, rfl, rfl, w⟩
def tdT (td : TEd) : TDt := fun δ Q => td δ fun d δ' => onB d fun b => Q b δ'
section
variable {X : Cx} {fr : Bool}
theorem dt_val {e : Expr} {td : TEd} (h : DE X fr e td) (he : ∀ whole, isTrue e X.env whole = (do let v ← whole; standAt e.pos; holding [v] (truthy v)) := by intro _; rfl) : DT X e (tdT td) := by
  obtain ⟨t, p, g⟩ := h.ex
  refine ⟨_, pt_val p he, fun r S σ H δ A Q Qd st w k => ?_⟩
  refine g r S σ H δ A _ _ st w fun v H' d δ' A' x st' is _ q => ?_
  obtain ⟨b, e1, e2, q⟩ := onB_at q is.at_
  exact ⟨b, e1, k b H' δ' A' x st' q⟩
theorem dt_cmp {op : CmpOp} {rr : R2} {p : P2} {a b : Expr} {pa pb : TPd} {pos : Pos} (ho : OpR X (compareOp op) rr) (hp : R2D X.K fr rr p) (ha : DP X a pa) (hb : DP X b pb) (hm : behindInMarks op b = false) : DT X (.Compare a [op] [b] pos) (tdT (tdOp p pa pb)) := by
  obtain ⟨ta, pa', ga⟩ := ha.ex
  obtain ⟨tb, pb', gb⟩ := hb.ex
  refine ⟨_, pt_cmpR ho pa' pb' hm, fun r S σ H δ A Q Qd st w k => ?_⟩
  refine ga r S σ H δ A _ _ st w fun x H1 La δ1 A1 x1 st1 la w1 => ?_
  refine gb r S σ H1 δ1 A1 _ _ st1 w1 fun y H2 Lb δ2 A2 x2 st2 lb w2 => ?_
  cases ea : La δ2 with
  | none => rw [ea] at w2; exact w2.elim
  | some a =>
    cases eb : Lb δ2 with
    | none => rw [ea, eb] at w2; exact w2.elim
    | some b =>
      rw [ea, eb] at w2
      refine hp r (sa S A2) H2 x y a b _ _ st2.thereA (la _ _ _ _ x2 st2 ea) (lb _ _ _ _ .refl st2 eb) w2 fun v H' d s is q => ?_
      obtain ⟨b, e1, e2, q⟩ := onB_at q is.at_
      exact ⟨b, e1, k b H' δ2 A2 ((x1.trans x2).then s) (st2.same s) q⟩
def tdNotT (td : TDt) : TDt := fun δ Q => td δ fun b δ' => Q (!b) δ'
theorem dt_not {e : Expr} {td : TDt} {pos : Pos} (h : DT X e td) : DT X (.UnaryOp .Not e pos) (tdNotT td) := by
  obtain ⟨t, p, g⟩ := h.ex
  exact ⟨_, pt_not p, fun r S σ H δ A Q Qd st w k => g r S σ H δ A _ _ st w fun b H' δ' A' x st' q => k _ H' δ' A' x st' q⟩
def tdAndT (ta tb : TDt) : TDt := fun δ Q => ta δ fun b δ' => if b = true then tb δ' Q else Q false δ'
def tdOrT (ta tb : TDt) : TDt := fun δ Q => ta δ fun b δ' => if b = true then Q true δ' else tb δ' Q
theorem dw_and1 {e : Expr} {td : TDt} {pos : Pos} (h : DT X e td) : DW X (.BoolOp .And [e] pos) td := by
  obtain ⟨t, p, g⟩ := h.ex
  exact ⟨t, pw_and1 p, g⟩
theorem dw_or1 {e : Expr} {td : TDt} {pos : Pos} (h : DT X e td) : DW X (.BoolOp .Or [e] pos) td := by
  obtain ⟨t, p, g⟩ := h.ex
  exact ⟨t, pw_or1 p, g⟩
theorem dw_and {a b : Expr} {rest : List Expr} {ta tb : TDt} {pos : Pos} (ha : DT X a ta) (hb : DW X (.BoolOp .And (b :: rest) pos) tb) : DW X (.BoolOp .And (a :: b :: rest) pos) (tdAndT ta tb) := by
  obtain ⟨t, p, g⟩ := ha.ex
  obtain ⟨u, p2, g2⟩ := hb.ex
  refine ⟨_, pw_and p p2, fun r S σ H δ A Q Qd st w k => g r S σ H δ A _ _ st w fun b H' δ' A' x st' q => ?_⟩
  cases b with
  | true => exact g2 r S σ H' δ' A' _ _ st' (by simpa using q) fun b H2 δ2 A2 x2 st2 q2 => k b H2 δ2 A2 (x.trans x2) st2 q2
  | false => exact k false H' δ' A' x st' (by simpa using q)
theorem dw_or {a b : Expr} {rest : List Expr} {ta tb : TDt} {pos : Pos} (ha : DT X a ta) (hb : DW X (.BoolOp .Or (b :: rest) pos) tb) : DW X (.BoolOp .Or (a :: b :: rest) pos) (tdOrT ta tb) := by
  obtain ⟨t, p, g⟩ := ha.ex
  obtain ⟨u, p2, g2⟩ := hb.ex
  refine ⟨_, pw_or p p2, fun r S σ H δ A Q Qd st w k => g r S σ H δ A _ _ st w fun b H' δ' A' x st' q => ?_⟩
  cases b with
  | false => exact g2 r S σ H' δ' A' _ _ st' (by simpa using q) fun b H2 δ2 A2 x2 st2 q2 => k b H2 δ2 A2 (x.trans x2) st2 q2
  | true => exact k true H' δ' A' x st' (by simpa using q)
theorem DW.dt {e : Expr} {td : TDt} (h : DW X e td) : DT X e td := by
  obtain ⟨t, p, g⟩ := h.ex
  exact ⟨t, p.pt, g⟩
/-! ### and, or, not, if as values -/
def tdAnd (ta tb : TEd) : TEd := fun δ Q => ta δ fun d δ' => onB d fun b => if b = true then tb δ' Q else Q (.bl false) δ'
def tdOr (ta tb : TEd) : TEd := fun δ Q => ta δ fun d δ' => onB d fun b => if b = true then Q (.bl true) δ' else tb δ' Q
def tdNot (ta : TEd) : TEd := fun δ Q => ta δ fun d δ' => onB d fun b => Q (.bl (!b)) δ'
theorem de_one {op} {e : Expr} {td : TEd} {pos : Pos} (h : DE X fr e td) : DE X fr (.BoolOp op [e] pos) td := by
  obtain ⟨t, p, g⟩ := h.ex
  exact ⟨t, pe_one p, g⟩
theorem de_and {a b : Expr} {rest : List Expr} {ta tb : TEd} {pos : Pos} {fr fr' : Bool} (ha : DE X fr a ta) (hb : DE X fr' (.BoolOp .And (b :: rest) pos) tb) : DE X false (.BoolOp .And (a :: b :: rest) pos) (tdAnd ta tb) := by
  obtain ⟨t, p, g⟩ := ha.ex
  obtain ⟨u, p2, g2⟩ := hb.ex
  refine ⟨_, pe_and p p2, fun r S σ H δ A Q Qd st w k => g r S σ H δ A _ _ st w fun v H' d δ' A' x st' is _ q => ?_⟩
  obtain ⟨b, e1, e2, q⟩ := onB_at q is.at_
  refine ⟨b, e1, ?_⟩
  cases b with
  | true => exact g2 r S σ H' δ' A' _ _ st' (by simpa using q) fun v2 H2 d2 δ2 A2 x2 st2 is2 _ q2 => k v2 H2 d2 δ2 A2 (x.trans x2) st2 (.of is2.at_) (fun z => nomatch z) q2
  | false => exact k _ H' _ δ' A' x st' (.of (.bl false)) (fun z => nomatch z) (by simpa using q)
theorem de_or {a b : Expr} {rest : List Expr} {ta tb : TEd} {pos : Pos} {fr fr' : Bool} (ha : DE X fr a ta) (hb : DE X fr' (.BoolOp .Or (b :: rest) pos) tb) : DE X false (.BoolOp .Or (a :: b :: rest) pos) (tdOr ta tb) := by
  obtain ⟨t, p, g⟩ := ha.ex
  obtain ⟨u, p2, g2⟩ := hb.ex
  refine ⟨_, pe_or p p2, fun r S σ H δ A Q Qd st w k => g r S σ H δ A _ _ st w fun v H' d δ' A' x st' is _ q => ?_⟩
  obtain ⟨b, e1, e2, q⟩ := onB_at q is.at_
  refine ⟨b, e1, ?_⟩
  cases b with
  | false => exact g2 r S σ H' δ' A' _ _ st' (by simpa using q) fun v2 H2 d2 δ2 A2 x2 st2 is2 _ q2 => k v2 H2 d2 δ2 A2 (x.trans x2) st2 (.of is2.at_) (fun z => nomatch z) q2
  | true => exact k _ H' _ δ' A' x st' (.of (.bl true)) (fun z => nomatch z) (by simpa using q)
theorem de_not {e : Expr} {ta : TEd} {pos : Pos} (ha : DE X fr e ta) : DE X false (.UnaryOp .Not e pos) (tdNot ta) := by
  obtain ⟨t, p, g⟩ := ha.ex
  refine ⟨_, pe_not p, fun r S σ H δ A Q Qd st w k => g r S σ H δ A _ _ st w fun v H' d δ' A' x st' is _ q => ?_⟩
  obtain ⟨b, e1, e2, q⟩ := onB_at q is.at_
  exact ⟨b, e1, k _ H' _ δ' A' x st' (.of (.bl _)) (fun z => nomatch z) q⟩
def tdIf (t : TDt) (ta tb : TEd) : TEd := fun δ Q => t δ fun b δ' => if b = true then ta δ' Q else tb δ' Q
theorem de_if {c a b : Expr} {tc : TDt} {ta tb : TEd} {pos : Pos} {fr fr' : Bool} (hc : DT X c tc) (ha : DE X fr a ta) (hb : DE X fr' b tb) : DE X false (.IfExp c a b pos) (tdIf tc ta tb) := by
  obtain ⟨t, p, g⟩ := hc.ex
  obtain ⟨u, p2, g2⟩ := ha.ex
  obtain ⟨u3, p3, g3⟩ := hb.ex
  refine ⟨_, pe_ifExp p p2 p3, fun r S σ H δ A Q Qd st w k => g r S σ H δ A _ _ st w fun b H' δ' A' x st' q => ?_⟩
  cases b with
  | true =>
    rw [if_pos rfl] at q ⊢
    exact g2 r S σ H' δ' A' _ _ st' q fun v2 H2 d2 δ2 A2 x2 st2 is2 _ q2 => k v2 H2 d2 δ2 A2 (x.trans x2) st2 (.of is2.at_) (fun z => nomatch z) q2
  | false =>
    rw [if_neg Bool.false_ne_true] at q ⊢
    exact g3 r S σ H' δ' A' _ _ st' q fun v2 H2 d2 δ2 A2 x2 st2 is2 _ q2 => k v2 H2 d2 δ2 A2 (x.trans x2) st2 (.of is2.at_) (fun z => nomatch z) q2
/-- -x -/
def tdNeg (ta : TEd) : TEd := fun δ Q => ta δ fun d δ' => match d with
  | .int i => Q (.int (-i)) δ'
  | _ => False
theorem de_neg {e : Expr} {ta : TEd} {pos : Pos} (ha : DE X fr e ta) : DE X false (.UnaryOp .USub e pos) (tdNeg ta) := by
  obtain ⟨t, p, g⟩ := ha.ex
  refine ⟨_, pe_un un_neg p, fun r S σ H δ A Q Qd st w k => g r S σ H δ A _ _ st w fun v H' d δ' A' x st' is _ q => ?_⟩
  cases d with
  | int i =>
    have e := is.at_
    cases e
    exact ⟨i, rfl, k _ H' _ δ' A' x st' (.of (.int _)) (fun z => nomatch z) q⟩
  | _ => exact q.elim
end
/-! ### displays -/
def tdTup (td : TAd) : TEd := fun δ Q => td δ fun ds δ' => ds.length ≤ sizeLine ∧ Q (.tup ds) δ'
def tdLst (td : TAd) : TEd := fun δ Q => td δ fun ds δ' => ds.length ≤ sizeLine ∧ Q (.lst ds) δ'
theorem fresh_up {r : Rp} {S : Addr → Prop} {A A' : Own} {H H' : Hp} {p : Addr} (x : Ext r S A H A' H') (h : H' p = none) : H p = none := by
  cases q : H p with
  | none => rfl
  | some o =>
    obtain ⟨o', e'⟩ := x.al p o q
    rw [h] at e'
    cases e'
section
variable {X : Cx}
theorem de_tup {es : List Expr} {td : TAd} {pos : Pos} {n : Nat} (h : DAs X es td) : DE X false (.Tuple es n pos) (tdTup td) := by
  obtain ⟨t, p, g⟩ := h.ex
  refine ⟨_, pe_tup p, fun r S σ H δ A Q Qd st w k => g r S σ H δ A _ _ st w fun vs H' ds δ' A' x st' is q => ?_⟩
  have s := fun p (hp : H' p = none) => same_new (o := .tup vs) hp
  exact ⟨by rw [is.length]; exact q.1, fun p hp => k _ _ _ δ' A' (x.then (s p hp)) (st'.same (s p hp)) (.of (Is.newT st'.thereA hp is).at_) (fun z => nomatch z) q.2⟩
theorem de_lst {es : List Expr} {td : TAd} {pos : Pos} (h : DAs X es td) : DE X true (.List es pos) (tdLst td) := by
  obtain ⟨t, p, g⟩ := h.ex
  refine ⟨_, pe_lst p, fun r S σ H δ A Q Qd st w k => g r S σ H δ A _ _ st w fun vs H' ds δ' A' x st' is q => ?_⟩
  have s := fun p (hp : H' p = none) => same_new (o := .lst vs) hp
  refine ⟨by rw [is.length]; exact q.1, fun p hp => k _ _ _ δ' A' (x.then (s p hp)) (st'.same (s p hp)) ?_ (fun _ p' e => ?_) q.2⟩
  · have z := Is.newL st'.thereA hp is
    exact ⟨z.at_, fun f => by
      obtain ⟨p2, e1, e2, e3⟩ := z.new f
      exact ⟨p2, e1, fresh_up x e2, e3⟩⟩
  · cases e
    exact st'.goH (.of (s p hp)) (fun a z => ((st'.same (s p hp)).pot a z).2) hp ⟨_, upd_same⟩
end
/-! ### slots stored -/
section
variable {K : PySem.W.Frag} {r : Rp} {S : Addr → Prop} {H H' : Hp} {σ : L2.St} {δ : DSt} {A A' : Own}
theorem drop_sub {i : Nat} {b : Addr} (h : sa S (drop A i) b) : sa S A b := sa_drop h
theorem StAt.set (st : StAt K r S H σ δ A) {i : Nat} {v : V} {d : D} (h : At K r (hid (sa S (drop A i)) H) v d) : StAt K r S H (σ.set i (some v)) (δ.set i (some (.fz d))) (drop A i) where
  len := by rw [List.length_set, List.length_set]; exact st.len
  fz := fun j c e => by
    by_cases hj : i = j
    · subst hj
      have il : i < δ.length := by
        have z := (List.getElem?_eq_some_iff.mp e).1
        rw [List.length_set] at z
        exact z
      rw [List.getElem?_set_self il] at e
      cases e
      exact ⟨v, List.getElem?_set_self (by rw [← st.len]; exact il), h⟩
    · rw [List.getElem?_set_ne hj] at e
      obtain ⟨w, e1, t⟩ := st.fz j c e
      exact ⟨w, by rw [List.getElem?_set_ne hj]; exact e1, t.same (hid_mono fun b z => sa_drop z)⟩
  ow := fun j c e => by
    by_cases hj : i = j
    · subst hj
      have il : i < δ.length := by
        have z := (List.getElem?_eq_some_iff.mp e).1
        rw [List.length_set] at z
        exact z
      rw [List.getElem?_set_self il] at e
      cases e
    · rw [List.getElem?_set_ne hj] at e
      obtain ⟨a, e1, e2, t⟩ := st.ow j c e
      refine ⟨a, ?_, by rw [List.getElem?_set_ne hj]; exact e2, t.mono fun b z => sa_drop z⟩
      unfold drop
      rw [if_neg fun z => hj z.symm]
      exact e1
  own := fun j a e => by
    unfold drop at e
    split at e
    · cases e
    · rename_i hj
      obtain ⟨⟨c, e1⟩, n, u⟩ := st.own j a e
      refine ⟨⟨c, by rw [List.getElem?_set_ne fun z => hj z.symm]; exact e1⟩, n, fun k z => ?_⟩
      unfold drop at z
      split at z
      · cases z
      · exact u k z
  there := st.there
  pot := st.pot
theorem Ext.drop {i : Nat} : Ext r S A H (drop A i) H :=
  ⟨hid_mono fun b z => sa_drop z, fun _ _ _ _ e => e, fun j c e => by
    unfold DL.drop at e
    split at e
    · cases e
    · exact .inl e, fun _ _ e => ⟨_, e⟩⟩
def put (A : Own) (i : Nat) (p : Addr) : Own := fun j => if j = i then some p else A j
theorem sa_put {i : Nat} {p b : Addr} (h : sa S (put A i p) b) : sa S A b ∨ b = p := by
  rcases h with h | ⟨j, h⟩
  · exact .inl (.inl h)
  · unfold put at h
    split at h
    · cases h; exact .inr rfl
    · exact .inl (.inr ⟨j, h⟩)
/-- a slot takes a new list for its own: st2 is the state with it hidden -/
theorem StAt.put (st : StAt K r S H σ δ A) {i : Nat} {p : Addr} {d : D} (il : i < δ.length) (st2 : StAt K r (fun b => S b ∨ b = p) H σ δ A) (np : ¬ sa S A p) (h : TopAt K r (fun b => sa S A b ∨ b = p) H p d) :
    StAt K r S H (σ.set i (some (.ref p))) (δ.set i (some (.ow d))) (put A i p) where
  len := by rw [List.length_set, List.length_set]; exact st.len
  fz := fun j c e => by
    by_cases hj : i = j
    · subst hj
      rw [List.getElem?_set_self il] at e
      cases e
    · rw [List.getElem?_set_ne hj] at e
      obtain ⟨w, e1, t⟩ := st2.fz j c e
      refine ⟨w, by rw [List.getElem?_set_ne hj]; exact e1, t.same (hid_mono fun b z => ?_)⟩
      rcases sa_put z with (z | z) | z
      · exact .inl (.inl z)
      · exact .inr z
      · exact .inl (.inr z)
  ow := fun j c e => by
    by_cases hj : i = j
    · subst hj
      rw [List.getElem?_set_self il] at e
      cases e
      refine ⟨p, ?_, List.getElem?_set_self (by rw [← st.len]; exact il), h.mono fun b z => sa_put z⟩
      unfold DL.put
      rw [if_pos rfl]
    · rw [List.getElem?_set_ne hj] at e
      obtain ⟨a, e1, e2, t⟩ := st2.ow j c e
      refine ⟨a, ?_, by rw [List.getElem?_set_ne hj]; exact e2, t.mono fun b z => ?_⟩
      · unfold DL.put
        rw [if_neg fun z => hj z.symm]
        exact e1
      · rcases sa_put z with (z | z) | z
        · exact .inl (.inl z)
        · exact .inr z
        · exact .inl (.inr z)
  own := fun j a e => by
    unfold DL.put at e
    split at e
    · rename_i hj
      cases e
      subst hj
      refine ⟨⟨d, List.getElem?_set_self il⟩, fun z => np (.inl z), fun k z => ?_⟩
      unfold DL.put at z
      split at z
      · assumption
      · exact (np (.inr ⟨k, z⟩)).elim
    · rename_i hj
      obtain ⟨⟨c, e1⟩, n, u⟩ := st.own j a e
      refine ⟨⟨c, by rw [List.getElem?_set_ne fun z => hj z.symm]; exact e1⟩, n, fun k z => ?_⟩
      unfold DL.put at z
      split at z
      · cases z
        exact (np (.inr ⟨j, e⟩)).elim
      · exact u k z
  there := st.there
  pot := st.pot
end
/-! ### targets -/
abbrev TGd := D → DSt → (DSt → Prop) → Prop
/-- all but these slots stay; these own nothing -/
structure Off (sl : List Nat) (σ σ' : L2.St) (δ δ' : DSt) (A A' : Own) : Prop where
  len : σ'.length = σ.length
  vs : ∀ j, j ∉ sl → σ'[j]? = σ[j]?
  ds : ∀ j, j ∉ sl → δ'[j]? = δ[j]?
  ow : ∀ j, A' j = if j ∈ sl then none else A j
/-- sl: the slots it stores to -/
structure DG (X : Cx) (tg : Expr) (sl : List Nat) (td : TGd) : Prop where
  ex : ∃ g, PG X tg g ∧ ∀ (r : Rp) (S : Addr → Prop) (σ : L2.St) (H : Hp) (δ : DSt) (A : Own) (v : V) (d : D) (Q : L2.St → Hp → Prop) (Qd : DSt → Prop), StAt X.K r S H σ δ A → At X.K r (hid (sa S A) H) v d → td d δ Qd →
    (∀ σ' δ' A', Ext r S A H A' H → StAt X.K r S H σ' δ' A' → Off sl σ σ' δ δ' A A' → Qd δ' → Q σ' H) → g v σ H Q
def tdgN (i : Nat) : TGd := fun d δ Q => Q (δ.set i (some (.fz d)))
section
variable {X : Cx}
theorem dg_name {i : Nat} {x : Str} {pos : Pos} (hN : X.N.Nodup) (hi : X.N[i]? = some x) (hx : Loc X.env.scope x) (hf : X.fn x = true ∨ X.env.scope.names.lookup x = some .local := by first | exact .inl rfl | exact .inr rfl | assumption) : DG X (.Name x pos) [i] (tdgN i) := by
  refine ⟨_, pg_name hN hi hx hf, fun r S σ H δ A v d Q Qd st h w k => ?_⟩
  exact k _ _ _ .drop (st.set (h.same (hid_mono fun b z => sa_drop z))) ⟨List.length_set, fun j hj => List.getElem?_set_ne fun z => hj (by rw [z]; exact List.mem_singleton.mpr rfl), fun j hj => List.getElem?_set_ne fun z => hj (by rw [z]; exact List.mem_singleton.mpr rfl), fun j => by
    unfold drop
    by_cases hj : j = i
    · rw [if_pos hj, if_pos (by rw [hj]; exact List.mem_singleton.mpr rfl)]
    · rw [if_neg hj, if_neg fun z => hj (List.mem_singleton.mp z)]⟩ w
abbrev TGsd := List D → DSt → (DSt → Prop) → Prop
structure DGs (X : Cx) (ts : List Expr) (sl : List Nat) (td : TGsd) : Prop where
  ex : ∃ g, PGs X ts g ∧ ∀ (r : Rp) (S : Addr → Prop) (σ : L2.St) (H : Hp) (δ : DSt) (A : Own) (vs : List V) (ds : List D) (Q : L2.St → Hp → Prop) (Qd : DSt → Prop), StAt X.K r S H σ δ A → AtL X.K r (hid (sa S A) H) vs ds → td ds δ Qd →
    (∀ σ' δ' A', Ext r S A H A' H → StAt X.K r S H σ' δ' A' → Off sl σ σ' δ δ' A A' → Qd δ' → Q σ' H) → g vs σ H Q
def tdgNil : TGsd := fun ds δ Q => match ds with
  | [] => Q δ
  | _ => False
def tdgCons (t : TGd) (u : TGsd) : TGsd := fun ds δ Q => match ds with
  | d :: ds => t d δ fun δ' => u ds δ' Q
  | _ => False
theorem dgs_nil : DGs X [] [] tdgNil := by
  refine ⟨_, pgs_nil, fun r S σ H δ A vs ds Q Qd st h w k => ?_⟩
  cases h with
  | nil => exact ⟨rfl, k σ δ A .refl st ⟨rfl, fun _ _ => rfl, fun _ _ => rfl, fun j => by rw [if_neg (List.not_mem_nil)]⟩ w⟩
  | cons _ _ => exact w.elim
theorem dgs_cons {e : Expr} {es : List Expr} {s1 s2 : List Nat} {t : TGd} {u : TGsd} (h1 : DG X e s1 t) (h2 : DGs X es s2 u) (hs : (assignEach (e :: es) X.env).map (·.2) = assign e X.env :: (assignEach es X.env).map (·.2) := by rfl) : DGs X (e :: es) (s1 ++ s2) (tdgCons t u) := by
  obtain ⟨g, p, q⟩ := h1.ex
  obtain ⟨g2, p2, q2⟩ := h2.ex
  refine ⟨_, pgs_cons p p2 hs, fun r S σ H δ A vs ds Q Qd st h w k => ?_⟩
  cases h with
  | nil => exact w.elim
  | @cons v vs d ds a t =>
    refine ⟨v, vs, rfl, q r S σ H δ A v d _ _ st a w fun σ1 δ1 A1 x1 st1 o1 w1 => ?_⟩
    refine q2 r S σ1 H δ1 A1 vs ds _ _ st1 (t.same x1.vis) w1 fun σ2 δ2 A2 x2 st2 o2 w2 => ?_
    refine k σ2 δ2 A2 (x1.trans x2) st2 ⟨o2.len.trans o1.len, fun j hj => (o2.vs j fun z => hj (List.mem_append_right _ z)).trans (o1.vs j fun z => hj (List.mem_append_left _ z)), fun j hj => (o2.ds j fun z => hj (List.mem_append_right _ z)).trans (o1.ds j fun z => hj (List.mem_append_left _ z)), fun j => ?_⟩ w2
    rw [o2.ow, o1.ow]
    by_cases h1 : j ∈ s1
    · by_cases h2 : j ∈ s2
      · rw [if_pos h2, if_pos (List.mem_append_left _ h1)]
      · rw [if_neg h2, if_pos h1, if_pos (List.mem_append_left _ h1)]
    · by_cases h2 : j ∈ s2
      · rw [if_pos h2, if_pos (List.mem_append_right _ h2)]
      · rw [if_neg h2, if_neg h1, if_neg fun z => (List.mem_append.mp z).elim h1 h2]
def tdgT (n : Nat) (u : TGsd) : TGd := fun d δ Q => match d with
  | .tup ds => ds.length = n ∧ u ds δ Q
  | _ => False
theorem dg_tup {es : List Expr} {k : Nat} {sl : List Nat} {t : TGsd} {n : Nat} {pos : Pos} (hc : X.calm = true) (h : DGs X es sl t) (hn : (assignEach es X.env).length = n := by rfl) (hst : (assignEach es X.env).findIdx? (·.1) = none := by rfl) :
    DG X (.Tuple es k pos) sl (tdgT n t) := by
  obtain ⟨g, p, q⟩ := h.ex
  refine ⟨_, pg_tup hc p hn hst, fun r S σ H δ A v d Q Qd st a w k => ?_⟩
  cases d with
  | tup ds =>
    cases a with
    | tup e t => exact ⟨_, _, rfl, sqT_sub e, by rw [t.length]; exact w.1, q r S σ H δ A _ _ Q Qd st t w.2 k⟩
  | _ => exact w.elim
end
/-! ### statements -/
structure Dn where
  nx : DSt → Prop
  rt : Bool → D → Prop
  bk : DSt → Prop := fun _ => False
  ct : DSt → Prop := fun _ => False
abbrev TSd := Dn → DSt → Prop
/-- what is returned: where it is said to be new, it is a list that only this def knows -/
def Rt (K : PySem.W.Frag) (r : Rp) (S : Addr → Prop) (A : Own) (H H' : Hp) (v : V) (f : Bool) (d : D) : Prop :=
  f = true → ∃ p, v = .ref p ∧ (H p = none ∨ ∃ i, A i = some p) ∧ TopAt K r (fun b => S b ∨ b = p) H' p d
structure To (K : PySem.W.Frag) (r : Rp) (S : Addr → Prop) (A : Own) (H : Hp) (E : Ends) (N : Dn) : Prop where
  nx : ∀ σ' H' δ' A', Ext r S A H A' H' → StAt K r S H' σ' δ' A' → N.nx δ' → E.nx σ' H'
  rt : ∀ v H' σ' d δ' A' f, Ext r S A H A' H' → StAt K r S H' σ' δ' A' → At K r (hid (sa S A') H') v d → Rt K r S A H H' v f d → N.rt f d → E.rt v H'
  bk : ∀ σ' H' δ' A', Ext r S A H A' H' → StAt K r S H' σ' δ' A' → N.bk δ' → E.bk σ' H'
  ct : ∀ σ' H' δ' A', Ext r S A H A' H' → StAt K r S H' σ' δ' A' → N.ct δ' → E.ct σ' H'
theorem Rt.up {K : PySem.W.Frag} {r : Rp} {S : Addr → Prop} {A A1 : Own} {H H1 H' : Hp} {v : V} {f : Bool} {d : D} (x : Ext r S A H A1 H1) (h : Rt K r S A1 H1 H' v f d) : Rt K r S A H H' v f d := fun z => by
  obtain ⟨p, e, o, t⟩ := h z
  refine ⟨p, e, ?_, t⟩
  rcases o with o | ⟨i, o⟩
  · exact .inl (fresh_up x o)
  · rcases x.ow i p o with o | o
    · exact .inr ⟨i, o⟩
    · exact .inl o
theorem To.up {K : PySem.W.Frag} {r : Rp} {S : Addr → Prop} {A A1 : Own} {H H1 : Hp} {E : Ends} {N : Dn} (x : Ext r S A H A1 H1) (t : To K r S A H E N) : To K r S A1 H1 E N where
  nx := fun σ' H' δ' A' x' => t.nx σ' H' δ' A' (x.trans x')
  rt := fun v H' σ' d δ' A' f x' st a q => t.rt v H' σ' d δ' A' f (x.trans x') st a (q.up x)
  bk := fun σ' H' δ' A' x' => t.bk σ' H' δ' A' (x.trans x')
  ct := fun σ' H' δ' A' x' => t.ct σ' H' δ' A' (x.trans x')
structure DS (X : Cx) (st : Stmt) (td : TSd) : Prop where
  ex : ∃ t, PS X st t ∧ ∀ (r : Rp) (S : Addr → Prop) (σ : L2.St) (H : Hp) (δ : DSt) (A : Own) (E : Ends) (N : Dn), StAt X.K r S H σ δ A → td N δ → To X.K r S A H E N → t E σ H
structure DSs (X : Cx) (sts : List Stmt) (td : TSd) : Prop where
  ex : ∃ t, PSs X sts t ∧ ∀ (r : Rp) (S : Addr → Prop) (σ : L2.St) (H : Hp) (δ : DSt) (A : Own) (E : Ends) (N : Dn), StAt X.K r S H σ δ A → td N δ → To X.K r S A H E N → t E σ H
def tdNext : TSd := fun N δ => N.nx δ
def tdSeq (t u : TSd) : TSd := fun N δ => t { N with nx := u N } δ
section
variable {X : Cx} {fr : Bool} {pos : Pos}
theorem dss_nil : DSs X [] tdNext := ⟨_, pss_nil, fun r S σ H δ A E N st w k => k.nx σ H δ A .refl st w⟩
theorem dss_cons {s : Stmt} {rest : List Stmt} {t u : TSd} (h1 : DS X s t) (h2 : DSs X rest u) : DSs X (s :: rest) (tdSeq t u) := by
  obtain ⟨a, p, g⟩ := h1.ex
  obtain ⟨b, p2, g2⟩ := h2.ex
  refine ⟨_, pss_cons p p2, fun r S σ H δ A E N st w k => g r S σ H δ A _ _ st w ⟨fun σ' H' δ' A' x st' q => ?_, k.rt, k.bk, k.ct⟩⟩
  exact g2 r S σ' H' δ' A' E N st' q (k.up x)
theorem dss_one {s : Stmt} {t : TSd} (h1 : DS X s t) : DSs X [s] t := by
  obtain ⟨a, p, g⟩ := h1.ex
  exact ⟨_, pss_one p, g⟩
theorem ds_pass : DS X (.Pass pos) tdNext := ⟨_, ps_pass, fun r S σ H δ A E N st w k => k.nx σ H δ A .refl st w⟩
def tdBreak : TSd := fun N δ => N.bk δ
def tdCont : TSd := fun N δ => N.ct δ
theorem ds_break : DS X (.Break pos) tdBreak := ⟨_, ps_break, fun r S σ H δ A E N st w k => k.bk σ H δ A .refl st w⟩
theorem ds_continue : DS X (.Continue pos) tdCont := ⟨_, ps_continue, fun r S σ H δ A E N st w k => k.ct σ H δ A .refl st w⟩
def tdDrop (te : TEd) : TSd := fun N δ => te δ fun _ δ' => N.nx δ'
theorem ds_expr {e : Expr} {te : TEd} (he : DE X fr e te) (hs : swapsWith e none pos.line X.env = pure false := by rfl) : DS X (.Expr e pos) (tdDrop te) := by
  obtain ⟨t, p, g⟩ := he.ex
  exact ⟨_, ps_expr p hs, fun r S σ H δ A E N st w k => g r S σ H δ A _ _ st w fun v H' d δ' A' x st' is _ q => k.nx σ H' δ' A' x st' q⟩
def tdRet (fr : Bool) (te : TEd) : TSd := fun N δ => te δ fun d _ => N.rt fr d
theorem ds_ret {e : Expr} {te : TEd} (he : DE X fr e te) : DS X (.Return (some e) pos) (tdRet fr te) := by
  obtain ⟨t, p, g⟩ := he.ex
  refine ⟨_, ps_ret p, fun r S σ H δ A E N st w k => g r S σ H δ A _ _ st w fun v H' d δ' A' x st' is h q => k.rt v H' σ d δ' A' fr x st' is.at_ (fun f => ?_) q⟩
  obtain ⟨p, e, n, t⟩ := is.new f
  exact ⟨p, e, .inl n, t.mono fun b z => z.elim (fun z => .inl (.inl z)) .inr⟩
/-- return x, x a list of the def's own -/
def tdRetO (i : Nat) : TSd := fun N δ => match δ[i]? with
  | some (some (.ow d)) => N.rt true d
  | _ => False
theorem ds_retO (i : Nat) {x : Str} {npos : Pos} (hN : X.N[i]? = some x := by rfl) (hv : Vis X.env.scope x := by first | exact Or.inl rfl | exact Or.inr (Or.inl rfl) | exact Or.inr (Or.inr rfl)) (hd : (x == ("__debug__" : Str)) = false := by decide)
    (hcd : (x == ("__classdict__" : Str)) = false := by decide) : DS X (.Return (some (.Name x npos)) pos) (tdRetO i) := by
  refine ⟨_, ps_ret (pe_var hN hv hd hcd), fun r S σ H δ A E N st w k => ?_⟩
  unfold tdRetO at w
  cases q : δ[i]? with
  | none => rw [q] at w; exact w.elim
  | some o =>
    cases o with
    | none => rw [q] at w; exact w.elim
    | some s =>
      cases s with
      | fz d => rw [q] at w; exact w.elim
      | ow d =>
        rw [q] at w
        obtain ⟨a, ea, ev, t⟩ := st.ow i d q
        have pk : DL.peek i δ = some d := by unfold DL.peek; rw [q]
        obtain ⟨A', x', st', at_⟩ := st.frz ev pk
        exact ⟨_, ev, k.rt _ H σ d _ A' true x' st' at_ (fun _ => ⟨a, rfl, .inr ⟨i, ea⟩, t.mono fun b z => z.elim .inl fun z => .inr ⟨i, by rw [z]; exact ea⟩⟩) w⟩
def tdRetN : TSd := fun N δ => N.rt false .non
theorem ds_retN : DS X (.Return none pos) tdRetN := ⟨_, ps_retN, fun r S σ H δ A E N st w k => k.rt .non H σ .non δ A false .refl st .non (fun z => nomatch z) w⟩
def tdIfS (t : TDt) (a b : TSd) : TSd := fun N δ => t δ fun c δ' => if c = true then a N δ' else b N δ'
theorem ds_if {c : Expr} {a b : List Stmt} {tc : TDt} {ta tb : TSd} (hc : DT X c tc) (ha : DSs X a ta) (hb : DSs X b tb) : DS X (.If c a b pos) (tdIfS tc ta tb) := by
  obtain ⟨t, p, g⟩ := hc.ex
  obtain ⟨u, p2, g2⟩ := ha.ex
  obtain ⟨u3, p3, g3⟩ := hb.ex
  refine ⟨_, ps_if p p2 p3, fun r S σ H δ A E N st w k => g r S σ H δ A _ _ st w fun b H' δ' A' x st' q => ?_⟩
  cases b with
  | true =>
    rw [if_pos rfl] at q ⊢
    exact g2 r S σ H' δ' A' E N st' q (k.up x)
  | false =>
    rw [if_neg Bool.false_ne_true] at q ⊢
    exact g3 r S σ H' δ' A' E N st' q (k.up x)
/-- x = e -/
def tdSet (i : Nat) (te : TEd) : TSd := fun N δ => te δ fun d δ' => N.nx (δ'.set i (some (.fz d)))
def tdSetO (i : Nat) (te : TEd) : TSd := fun N δ => te δ fun d δ' => N.nx (δ'.set i (some (.ow d)))
theorem ds_set {i : Nat} {x : Str} {e : Expr} {te : TEd} {pos' : Pos} (hN : X.N.Nodup) (hi : X.N[i]? = some x) (hx : Loc X.env.scope x) (he : DE X fr e te) (hs : swapsWith e (some (.Name x pos')) pos.line X.env = pure false := by rfl)
    (hf : X.fn x = true ∨ X.env.scope.names.lookup x = some .local := by first | exact .inl rfl | exact .inr rfl | assumption) : DS X (.Assign [.Name x pos'] e pos) (tdSet i te) := by
  obtain ⟨t, p, g⟩ := he.ex
  refine ⟨_, ps_set hN hi hx p hs hf, fun r S σ H δ A E N st w k => g r S σ H δ A _ _ st w fun v H' d δ' A' x st' is _ q => ?_⟩
  exact k.nx _ H' _ _ (x.trans .drop) (st'.set (is.at_.same (hid_mono fun b z => sa_drop z))) q
/-- the store of a new list to a slot of its own -/
theorem own_store {r : Rp} {S : Addr → Prop} {σ : L2.St} {H H' : Hp} {δ' : DSt} {A A' : Own} {v : V} {d : D} {i : Nat} (il : i < σ.length) (x : Ext r S A H A' H') (st' : StAt X.K r S H' σ δ' A') (is : Is true X.K r (sa S A') H H' v d)
    (st2 : ∀ p, v = .ref p → StAt X.K r (fun b => S b ∨ b = p) H' σ δ' A') : ∃ A2, Ext r S A H A2 H' ∧ StAt X.K r S H' (σ.set i (some v)) (δ'.set i (some (.ow d))) A2 := by
  obtain ⟨p, rfl, hp, t⟩ := is.new rfl
  have np : ¬ sa S A' p := fun z => by
    rcases z with z | ⟨j, z⟩
    · -- hidden things have been there: visible data can't be hidden
      have a := is.at_
      rcases t with ⟨xs, ds, rfl, e, _⟩ | ⟨xs, ds, rfl, e, _⟩
      · cases a with
        | lst e2 _ => exact (hid_of e2).1 (.inl z)
      · cases a with
        | dic e2 _ => exact (hid_of e2).1 (.inl z)
    · have a := is.at_
      rcases t with ⟨xs, ds, rfl, e, _⟩ | ⟨xs, ds, rfl, e, _⟩
      · cases a with
        | lst e2 _ => exact (hid_of e2).1 (.inr ⟨j, z⟩)
      · cases a with
        | dic e2 _ => exact (hid_of e2).1 (.inr ⟨j, z⟩)
  refine ⟨put A' i p, ⟨?_, x.hd, fun j a e => ?_, x.al⟩, st'.put (by rw [st'.len]; exact il) (st2 p rfl) np t⟩
  · refine fun b o e => ?_
    have e1 := x.vis b o e
    obtain ⟨n, e0⟩ := hid_of e
    obtain ⟨n1, e2⟩ := hid_of e1
    rw [hid_no]
    · exact e2
    · intro z
      rcases sa_put z with z | z
      · exact n1 z
      · rw [z, hp] at e0
        cases e0
  · unfold put at e
    split at e
    · cases e
      exact .inr hp
    · exact x.ow j a e
theorem ds_setO {i : Nat} {x : Str} {e : Expr} {te : TEd} {pos' : Pos} (hN : X.N.Nodup) (hi : X.N[i]? = some x) (hx : Loc X.env.scope x) (he : DE X true e te)
    (hs : swapsWith e (some (.Name x pos')) pos.line X.env = pure false := by rfl)
    (hf : X.fn x = true ∨ X.env.scope.names.lookup x = some .local := by first | exact .inl rfl | exact .inr rfl | assumption) : DS X (.Assign [.Name x pos'] e pos) (fun N δ => i < δ.length ∧ tdSetO i te N δ) := by
  obtain ⟨t, p, g⟩ := he.ex
  refine ⟨_, ps_set hN hi hx p hs hf, fun r S σ H δ A E N st w k => g r S σ H δ A _ _ st w.2 fun v H' d δ' A' x st' is st2 q => ?_⟩
  obtain ⟨A2, x2, st3⟩ := own_store (by rw [← st.len]; exact w.1) x st' is (fun p e => st2 rfl p e)
  exact k.nx _ H' _ _ x2 st3 q
/-- a, b = e -/
def tdAsg (te : TEd) (g : TGd) : TSd := fun N δ => te δ fun d δ' => g d δ' N.nx
theorem ds_asg {tg e : Expr} {sl : List Nat} {te : TEd} {g : TGd} (he : DE X fr e te) (hg : DG X tg sl g) (hs : swapsWithSole [tg] e pos.line X.env = pure false := by rfl) (hw : swappedStores [tg] e X.env = pure none := by rfl)
    (h1 : (assignEach [tg] X.env).map (·.2) = [assign tg X.env] := by rfl) : DS X (.Assign [tg] e pos) (tdAsg te g) := by
  obtain ⟨t, p, gg⟩ := he.ex
  obtain ⟨u, p2, g2⟩ := hg.ex
  refine ⟨_, ps_asg p p2 hs hw h1, fun r S σ H δ A E N st w k => gg r S σ H δ A _ _ st w fun v H' d δ' A' x st' is _ q => ?_⟩
  exact g2 r S σ H' δ' A' v d _ _ st' is.at_ q fun σ2 δ2 A2 x2 st2 _ q2 => k.nx σ2 H' δ2 A2 (x.trans x2) st2 q2
end
end DL

set_option Elab.async false
set_option linter.all false
set_option maxRecDepth 100000
set_option maxHeartbeats 4000000
namespace DL
open PySem PySem.Spec L2 PSG RZ
/-! ### what a for walks -/
structure Wk (K : PySem.W.Frag) (r : Rp) (h : Hp) (J : It) (ds : List D) : Prop where
  go : ∀ G, Same h G → ∀ i, i < ds.length → J.go i G
  yl : ∀ G S', Same h (hid S' G) → There S' G → ∀ i x G', i < ds.length → J.yld i G x G' → ∃ d, ds[i]? = some d ∧ Same G G' ∧ At K r (hid S' G') x d
  st : ∀ G, Same h G → J.stop ds.length G
abbrev TId := DSt → (List D → DSt → Prop) → Prop
structure DI (X : Cx) (tg iter : Expr) (td : TId) : Prop where
  ex : ∃ t, PI X tg iter t ∧ ∀ (r : Rp) (S : Addr → Prop) (σ : L2.St) (H : Hp) (δ : DSt) (A : Own) (R : It → Hp → Prop) (Qd : List D → DSt → Prop), StAt X.K r S H σ δ A → td δ Qd →
    (∀ J H' ds δ' A', Ext r S A H A' H' → StAt X.K r S H' σ δ' A' → Wk X.K r (hid (sa S A') H') J ds → Qd ds δ' → R J H') → t σ H R
section
variable {X : Cx} {tg : Expr}
/-- lists and tuples that are data -/
def onL (d : D) (Q : List D → Prop) : Prop := match d with
  | .lst ds => Q ds
  | _ => False
def onT (d : D) (Q : List D → Prop) : Prop := match d with
  | .tup ds => Q ds
  | _ => False
theorem sqS {K : PySem.W.Frag} {h G : Hp} {a : Addr} {xs : List V} (x : Same h G) (e : SqT K h a xs) : SqT K G a xs := PSG.same_tup x e
theorem wk_l {K : PySem.W.Frag} {r : Rp} {h : Hp} {a : Addr} {xs : List V} {ds : List D} (e : h a = some (.lst xs)) (t : AtL K r h xs ds) : Wk K r h (Itl K a) ds where
  go := fun G x i il => by
    rw [← t.length] at il
    exact ⟨xs, xs[i], SqL.of (x _ _ e), by simp [il]⟩
  yl := fun G S' x th i v G' il y => by
    obtain ⟨rfl, y⟩ := y
    obtain ⟨d, e1, t1⟩ := t.getV (y xs (SqL.of (hid_sub _ _ (x _ _ e))))
    exact ⟨d, e1, Same.refl _, t1.same x⟩
  st := fun G x => ⟨xs, SqL.of (x _ _ e), by rw [t.length]; exact Nat.le_refl _⟩
theorem wk_t {K : PySem.W.Frag} {r : Rp} {h : Hp} {a : Addr} {xs : List V} {ds : List D} (e : SqT K h a xs) (t : AtL K r h xs ds) : Wk K r h (Itt K a) ds where
  go := fun G x i il => by
    rw [← t.length] at il
    exact ⟨xs, xs[i], sqS x e, by simp [il]⟩
  yl := fun G S' x th i v G' il y => by
    obtain ⟨rfl, y⟩ := y
    obtain ⟨d, e1, t1⟩ := t.getV (y xs (sqT_sub (sqS x e)))
    exact ⟨d, e1, Same.refl _, t1.same x⟩
  st := fun G x => ⟨xs, sqS x e, by rw [t.length]; exact Nat.le_refl _⟩
def tiL (td : TEd) : TId := fun δ Q => td δ fun d δ' => onL d fun ds => Q ds δ'
def tiT (td : TEd) : TId := fun δ Q => td δ fun d δ' => onT d fun ds => Q ds δ'
theorem di_list {fr : Bool} {e : Expr} {td : TEd} (h : DE X fr e td) : DI X tg e (tiL td) := by
  obtain ⟨t, p, g⟩ := h.ex
  refine ⟨_, pi_list p, fun r S σ H δ A R Qd st w k => g r S σ H δ A _ _ st w fun v H' d δ' A' x st' is _ q => ?_⟩
  cases d with
  | lst ds =>
    have a := is.at_
    cases a with
    | lst e t => exact ⟨_, rfl, ⟨_, SqL.of (hid_sub _ _ e)⟩, k _ H' ds δ' A' x st' (wk_l e t) q⟩
  | _ => exact q.elim
theorem di_tup {fr : Bool} {e : Expr} {td : TEd} (h : DE X fr e td) : DI X tg e (tiT td) := by
  obtain ⟨t, p, g⟩ := h.ex
  refine ⟨_, pi_tup p, fun r S σ H δ A R Qd st w k => g r S σ H δ A _ _ st w fun v H' d δ' A' x st' is _ q => ?_⟩
  cases d with
  | tup ds =>
    have a := is.at_
    cases a with
    | tup e t => exact ⟨_, rfl, ⟨_, sqT_sub e⟩, k _ H' ds δ' A' x st' (wk_t e t) q⟩
  | _ => exact q.elim
/-- a text, letter by letter -/
def ones (z : Str) : List D := z.cps.toList.map fun c => .str ⟨#[c]⟩
theorem wk_s {K : PySem.W.Frag} {r : Rp} {h : Hp} {z : Str} : Wk K r h (Its z) (ones z) where
  go := fun G x i il => by
    have ln : (ones z).length = z.cps.size := by unfold ones; rw [List.length_map, Array.length_toList]
    rw [ln] at il
    exact il
  yl := fun G S' x th i v G' il y => by
    obtain ⟨rfl, c, e1, rfl⟩ := y
    refine ⟨.str ⟨#[c]⟩, ?_, Same.refl _, .str _⟩
    unfold ones
    rw [List.getElem?_map, Array.getElem?_toList, e1]
    rfl
  st := fun G x => by
    have ln : (ones z).length = z.cps.size := by unfold ones; rw [List.length_map, Array.length_toList]
    rw [ln]
    exact Nat.le_refl _
/-- a slot that holds a list or a tuple -/
def tiV (i : Nat) : TId := fun δ Q => match δ[i]? with
  | some (some (.fz (.lst ds))) => Q ds δ
  | some (some (.fz (.tup ds))) => Q ds δ
  | some (some (.fz (.str z))) => Q (ones z) δ
  | _ => False
theorem di_v (i : Nat) {x : Str} {pos : Pos} (hN : X.N[i]? = some x := by rfl) (hv : Vis X.env.scope x := by first | exact Or.inl rfl | exact Or.inr (Or.inl rfl) | exact Or.inr (Or.inr rfl)) (hd : (x == ("__debug__" : Str)) = false := by decide)
    (hcd : (x == ("__classdict__" : Str)) = false := by decide) : DI X tg (.Name x pos) (tiV i) := by
  refine ⟨_, PSG.pi_or (pi_list (pe_var hN hv hd hcd)) (PSG.pi_or (pi_tup (pe_var hN hv hd hcd)) (pi_str (pe_var hN hv hd hcd))), fun r S σ H δ A R Qd st w k => ?_⟩
  unfold tiV at w
  split at w
  · rename_i ds q
    obtain ⟨v, e1, a⟩ := st.fz i _ q
    cases a with
    | lst e t => exact .inl ⟨_, e1, _, rfl, ⟨_, SqL.of (hid_sub _ _ e)⟩, k _ H ds δ A .refl st (wk_l e t) w⟩
  · rename_i ds q
    obtain ⟨v, e1, a⟩ := st.fz i _ q
    cases a with
    | tup e t => exact .inr (.inl ⟨_, e1, _, rfl, ⟨_, sqT_sub e⟩, k _ H ds δ A .refl st (wk_t e t) w⟩)
  · rename_i z q
    obtain ⟨v, e1, a⟩ := st.fz i _ q
    cases a
    exact .inr (.inr ⟨_, e1, z, rfl, k _ H (ones z) δ A .refl st wk_s w⟩)
  · exact w.elim
def tiS (td : TEd) : TId := fun δ Q => td δ fun d δ' => match d with
  | .str z => Q (ones z) δ'
  | _ => False
theorem di_str {fr : Bool} {e : Expr} {td : TEd} (h : DE X fr e td) : DI X tg e (tiS td) := by
  obtain ⟨t, p, g⟩ := h.ex
  refine ⟨_, pi_str p, fun r S σ H δ A R Qd st w k => g r S σ H δ A _ _ st w fun v H' d δ' A' x st' is _ q => ?_⟩
  cases d with
  | str z =>
    have a := is.at_
    cases a
    have ln : (ones z).length = z.cps.size := by unfold ones; rw [List.length_map, Array.length_toList]
    refine ⟨z, rfl, k _ H' (ones z) δ' A' x st' ⟨fun G x i il => ?_, fun G S' x th i v G' il y => ?_, fun G x => ?_⟩ q⟩
    · rw [ln] at il
      exact il
    · obtain ⟨rfl, c, e1, rfl⟩ := y
      refine ⟨.str ⟨#[c]⟩, ?_, Same.refl _, .str _⟩
      unfold ones
      rw [List.getElem?_map, Array.getElem?_toList, e1]
      rfl
    · rw [ln]
      exact Nat.le_refl _
  | _ => exact q.elim
/-- range(n), range(a, b) -/
def rg (lo : Int) (n : Nat) : List D := (List.range n).map fun (i : Nat) => .int (lo + i)
theorem wk_r {K : PySem.W.Frag} {r : Rp} {h : Hp} {lo : Int} {n : Nat} : Wk K r h (Itr lo n) (rg lo n) where
  go := fun G x i il => by
    unfold rg at il
    rw [List.length_map, List.length_range] at il
    exact il
  yl := fun G S' x th i v G' il y => by
    unfold rg at il
    rw [List.length_map, List.length_range] at il
    obtain ⟨rfl, rfl⟩ := y
    refine ⟨.int (lo + i), ?_, Same.refl _, .int _⟩
    unfold rg
    rw [List.getElem?_map, List.getElem?_range il]
    rfl
  st := fun G x => by
    unfold rg
    rw [List.length_map, List.length_range]
    exact Nat.le_refl _
def tiR1 (td : TAd) : TId := fun δ Q => td δ fun d δ' => match d with
  | [.int j] => (-(2 ^ 62) ≤ j ∧ j < 2 ^ 62) ∧ Q (rg 0 j.toNat) δ'
  | _ => False
theorem AtL.one {K : PySem.W.Frag} {r : Rp} {H : Hp} {vs : List V} {d : D} (h : AtL K r H vs [d]) : ∃ v, vs = [v] ∧ At K r H v d := by
  cases h with
  | cons h t => cases t; exact ⟨_, rfl, h⟩
theorem AtL.two {K : PySem.W.Frag} {r : Rp} {H : Hp} {vs : List V} {d e : D} (h : AtL K r H vs [d, e]) : ∃ v w, vs = [v, w] ∧ At K r H v d ∧ At K r H w e := by
  cases h with
  | cons h t =>
    obtain ⟨w, rfl, t2⟩ := t.one
    exact ⟨_, _, rfl, h, t2⟩
theorem di_range1 {e : Expr} {td : TAd} {p pos : Pos} (hg : Gl X "range") (hm : X.mg "range" = none) (h : DAs X [e] td) (hs : starEach [e] X.env = [(false, eval e X.env)] := by rfl) : DI X tg (.Call (.Name "range" p) [e] [] pos) (tiR1 td) := by
  obtain ⟨t, q, g⟩ := h.ex
  refine ⟨_, pi_range1 hg hm q hs, fun r S σ H δ A R Qd st w k => g r S σ H δ A _ _ st w fun v H' d δ' A' x st' is q => ?_⟩
  match d, is, q with
  | [.int j], is, q =>
    obtain ⟨v, rfl, a⟩ := is.one
    cases a
    exact ⟨j, rfl, q.1.1, q.1.2, k _ H' _ δ' A' x st' wk_r q.2⟩
def tiR2 (td : TAd) : TId := fun δ Q => td δ fun d δ2 => match d with
  | [.int i, .int j] => (-(2 ^ 62) ≤ i ∧ i < 2 ^ 62 ∧ -(2 ^ 62) ≤ j ∧ j < 2 ^ 62) ∧ Q (rg i (j - i).toNat) δ2
  | _ => False
theorem di_range2 {e e2 : Expr} {td : TAd} {p pos : Pos} (hg : Gl X "range") (hm : X.mg "range" = none) (h : DAs X [e, e2] td) (hs : starEach [e, e2] X.env = [(false, eval e X.env), (false, eval e2 X.env)] := by rfl) (hs2 : starEach [e2] X.env = [(false, eval e2 X.env)] := by rfl) :
    DI X tg (.Call (.Name "range" p) [e, e2] [] pos) (tiR2 td) := by
  obtain ⟨t, q, g⟩ := h.ex
  refine ⟨_, pi_range2 hg hm q hs hs2, fun r S σ H δ A R Qd st w k => g r S σ H δ A _ _ st w fun v H' d δ' A' x st' is q => ?_⟩
  match d, is, q with
  | [.int i, .int j], is, q =>
    obtain ⟨v, v2, rfl, a, b⟩ := is.two
    cases a
    cases b
    exact ⟨i, j, rfl, q.1, k _ H' _ δ' A' x st' wk_r q.2⟩
/-- enumerate(a list) -/
def enu (ds : List D) : List D := ds.zipIdx.map fun p => .tup [.int p.2, p.1]
theorem enu_length {ds : List D} : (enu ds).length = ds.length := by unfold enu; rw [List.length_map, List.length_zipIdx]
theorem enu_get {ds : List D} {i : Nat} {d : D} (h : ds[i]? = some d) : (enu ds)[i]? = some (.tup [.int i, d]) := by
  unfold enu
  rw [List.getElem?_map, List.getElem?_zipIdx, h]
  simp
theorem at_pair {K : PySem.W.Frag} {r : Rp} {S : Addr → Prop} {H : Hp} {T : Addr} {x y : V} {a b : D} (th : There S H) (hT : H T = none) (hx : At K r (hid S H) x a) (hy : At K r (hid S H) y b) : At K r (hid S (upd H T (.tup [x, y]))) (.ref T) (.tup [a, b]) :=
  (Is.newT th hT (.cons hx (.cons hy .nil))).at_
theorem wk_e {K : PySem.W.Frag} {r : Rp} {h : Hp} {a : Addr} {xs : List V} {ds : List D} (e : h a = some (.lst xs)) (t : AtL K r h xs ds) : Wk K r h (Ite K a) (enu ds) where
  go := fun G x i il => by
    rw [enu_length, ← t.length] at il
    exact ⟨xs, xs[i], SqL.of (x _ _ e), by simp [il]⟩
  yl := fun G S' x th i v G' il y => by
    obtain ⟨T, z, rfl, hT, rfl, y⟩ := y
    obtain ⟨d, e1, t1⟩ := t.getV (y xs (SqL.of (hid_sub _ _ (x _ _ e))))
    exact ⟨_, enu_get e1, same_new hT, at_pair th hT (.int _) (t1.same x)⟩
  st := fun G x => ⟨xs, SqL.of (x _ _ e), by rw [enu_length, t.length]; exact Nat.le_refl _⟩
def tiE (td : TAd) : TId := fun δ Q => td δ fun d δ' => match d with
  | [.lst ds] => Q (enu ds) δ'
  | _ => False
theorem di_enum {e : Expr} {td : TAd} {p pos tpos : Pos} {elts : List Expr} {kk : Nat} (hg : Gl X "enumerate") (hm : X.mg "enumerate" = none) (h : DAs X [e] td) (hs : starEach [e] X.env = [(false, eval e X.env)] := by rfl) :
    DI X (.Tuple elts kk tpos) (.Call (.Name "enumerate" p) [e] [] pos) (tiE td) := by
  obtain ⟨t, q, g⟩ := h.ex
  refine ⟨_, pi_enum hg hm q hs, fun r S σ H δ A R Qd st w k => g r S σ H δ A _ _ st w fun v H' d δ' A' x st' is q => ?_⟩
  match d, is, q with
  | [.lst ds], is, q =>
    obtain ⟨v, rfl, a⟩ := is.one
    cases a with
    | lst e t => exact ⟨_, _, rfl, SqL.of (hid_sub _ _ e), k _ H' _ δ' A' x st' (wk_e e t) q⟩
/-- zip of two lists, of two tuples -/
def zp (ds es : List D) : List D := List.zipWith (fun a b => .tup [a, b]) ds es
theorem zp_length {ds es : List D} : (zp ds es).length = min ds.length es.length := by unfold zp; rw [List.length_zipWith]
theorem zp_get {ds es : List D} {i : Nat} {d e : D} (h : ds[i]? = some d) (h2 : es[i]? = some e) : (zp ds es)[i]? = some (.tup [d, e]) := by
  unfold zp
  rw [List.getElem?_zipWith, h, h2]
theorem wk_z {K : PySem.W.Frag} {r : Rp} {h : Hp} {a b : Addr} {xs ys : List V} {ds es : List D} (e : h a = some (.lst xs)) (t : AtL K r h xs ds) (e2 : h b = some (.lst ys)) (t2 : AtL K r h ys es) : Wk K r h (Itz K a b) (zp ds es) where
  go := fun G x i il => by
    rw [zp_length, ← t.length, ← t2.length] at il
    have l1 : i < xs.length := by omega
    have l2 : i < ys.length := by omega
    exact ⟨xs, ys, xs[i], ys[i], SqL.of (x _ _ e), SqL.of (x _ _ e2), by simp [l1], by simp [l2]⟩
  yl := fun G S' x th i v G' il y => by
    obtain ⟨T, z1, z2, rfl, hT, rfl, y1, y2⟩ := y
    obtain ⟨d1, e1, t1⟩ := t.getV (y1 xs (SqL.of (hid_sub _ _ (x _ _ e))))
    obtain ⟨d2, e3, t3⟩ := t2.getV (y2 ys (SqL.of (hid_sub _ _ (x _ _ e2))))
    exact ⟨_, zp_get e1 e3, same_new hT, at_pair th hT (t1.same x) (t3.same x)⟩
  st := fun G x => ⟨xs, ys, SqL.of (x _ _ e), SqL.of (x _ _ e2), by rw [zp_length, t.length, t2.length]; omega⟩
theorem wk_zT {K : PySem.W.Frag} {r : Rp} {h : Hp} {a b : Addr} {xs ys : List V} {ds es : List D} (e : SqT K h a xs) (t : AtL K r h xs ds) (e2 : SqT K h b ys) (t2 : AtL K r h ys es) : Wk K r h (ItzT K a b) (zp ds es) where
  go := fun G x i il => by
    rw [zp_length, ← t.length, ← t2.length] at il
    have l1 : i < xs.length := by omega
    have l2 : i < ys.length := by omega
    exact ⟨xs, ys, xs[i], ys[i], sqS x e, sqS x e2, by simp [l1], by simp [l2]⟩
  yl := fun G S' x th i v G' il y => by
    obtain ⟨T, z1, z2, rfl, hT, rfl, y1, y2⟩ := y
    obtain ⟨d1, e1, t1⟩ := t.getV (y1 xs (sqT_sub (sqS x e)))
    obtain ⟨d2, e3, t3⟩ := t2.getV (y2 ys (sqT_sub (sqS x e2)))
    exact ⟨_, zp_get e1 e3, same_new hT, at_pair th hT (t1.same x) (t3.same x)⟩
  st := fun G x => ⟨xs, ys, sqS x e, sqS x e2, by rw [zp_length, t.length, t2.length]; omega⟩
def tiZ (td : TAd) : TId := fun δ Q => td δ fun d δ2 => match d with
  | [.lst ds, .lst es] => Q (zp ds es) δ2
  | [.tup ds, .tup es] => Q (zp ds es) δ2
  | _ => False
theorem di_zip {e e2 : Expr} {td : TAd} {p pos tpos : Pos} {elts : List Expr} {kk : Nat} (hg : Gl X "zip") (hm : X.mg "zip" = none) (h : DAs X [e, e2] td)
    (hs : starEach [e, e2] X.env = (false, eval e X.env) :: starEach [e2] X.env := by rfl) (hpl : (backTo pos (starEach [e2] X.env)).any (·.1) = false := by rfl) :
    DI X (.Tuple elts kk tpos) (.Call (.Name "zip" p) [e, e2] [] pos) (tiZ td) := by
  obtain ⟨t, q, g⟩ := h.ex
  refine ⟨_, pi_zipA hg hm q hs hpl, fun r S σ H δ A R Qd st w k => g r S σ H δ A _ _ st w fun v H2 d δ2 A2 x st2 is q => ?_⟩
  match d, is, q with
  | [.lst ds, .lst es], is, q =>
    obtain ⟨v, v2, rfl, a, b⟩ := is.two
    cases a with
    | lst e1 t1 =>
      cases b with
      | lst e3 t3 => exact ⟨_, _, _, _, rfl, .inl ⟨SqL.of (hid_sub _ _ e1), SqL.of (hid_sub _ _ e3), k _ H2 _ δ2 A2 x st2 (wk_z e1 t1 e3 t3) q⟩⟩
  | [.tup ds, .tup es], is, q =>
    obtain ⟨v, v2, rfl, a, b⟩ := is.two
    cases a with
    | tup e1 t1 =>
      cases b with
      | tup e3 t3 => exact ⟨_, _, _, _, rfl, .inr ⟨sqT_sub e1, sqT_sub e3, k _ H2 _ δ2 A2 x st2 (wk_zT e1 t1 e3 t3) q⟩⟩
end
section
variable {X : Cx} {tg : Expr}
/-! ### for -/
def tdFor (ti : TId) (g : TGd) (tb : TSd) : TSd := fun N δ => ti δ fun ds δ1 => ∃ W : Nat → DSt → Prop, W 0 δ1 ∧ (∀ i d δ, ds[i]? = some d → W i δ → g d δ fun δ2 => tb { N with nx := W (i + 1), ct := W (i + 1), bk := N.nx } δ2) ∧ ∀ δ, W ds.length δ → N.nx δ
theorem ds_for {iter : Expr} {body : List Stmt} {sl : List Nat} {ti : TId} {g : TGd} {tb : TSd} {pos : Pos} (hp : PassesOwn (model X.prog X.w) X.A X.env X.xe) (hc : X.calm = true) (hi : DI X tg iter ti) (hg : DG X tg sl g) (hb : DSs X body tb)
    (hs : ∀ x, foldedSetIterable iter X.env x = pure x := by intro _; rfl) : DS X (.For tg iter body [] pos) (tdFor ti g tb) := by
  obtain ⟨wi, p, q⟩ := hi.ex
  obtain ⟨gg, p2, q2⟩ := hg.ex
  obtain ⟨tt, p3, q3⟩ := hb.ex
  refine ⟨_, ps_for hp hc p p2 p3 hs, fun r S σ H δ A E N st w k => ?_⟩
  refine q r S σ H δ A _ _ st w fun J H1 ds δ1 A1 x1 st1 wk ⟨W, w0, turn, fin⟩ => ?_
  refine ⟨fun i m σ' H' => m = ds.length - i ∧ i ≤ ds.length ∧ ∃ δ' A', Ext r S A1 H1 A' H' ∧ StAt X.K r S H' σ' δ' A' ∧ W i δ', ⟨_, rfl, Nat.zero_le _, δ1, A1, .refl, st1, w0⟩, ?_⟩
  rintro i m σ' H' ⟨rfl, le, δ', A', x', st', wi'⟩
  by_cases lt : i < ds.length
  · refine .inr ⟨wk.go H' (x'.vis.trans hid_sub) i lt, fun σ2 H2 => ∃ δ2 A2, Ext r S A1 H1 A2 H2 ∧ StAt X.K r S H2 σ2 δ2 A2 ∧ W (i + 1) δ2, fun σ2 H2 ⟨δ2, A2, h1, h2, h3⟩ => ⟨ds.length - (i + 1), by omega, rfl, lt, δ2, A2, h1, h2, h3⟩, fun v G y => ?_⟩
    obtain ⟨d, e, s, a⟩ := wk.yl H' _ x'.vis st'.thereA i v G lt y
    have x2 := x'.then s
    refine q2 r S σ' G δ' A' v d _ _ (st'.same s) a (turn i d δ' e wi') fun σ3 δ3 A3 x3 st3 _ w3 => ?_
    have x4 := x2.trans x3
    have kk := k.up x1
    refine q3 r S σ3 G δ3 A3 _ _ st3 w3 ⟨fun σ4 H4 δ4 A4 x5 st4 w4 => ⟨δ4, A4, x4.trans x5, st4, w4⟩, fun v H4 σ4 d δ4 A4 f x5 st4 a4 rt w4 => (kk.up x4).rt v H4 σ4 d δ4 A4 f x5 st4 a4 rt w4,
      fun σ4 H4 δ4 A4 x5 st4 w4 => (kk.up x4).nx σ4 H4 δ4 A4 x5 st4 w4, fun σ4 H4 δ4 A4 x5 st4 w4 => ⟨δ4, A4, x4.trans x5, st4, w4⟩⟩
  · obtain rfl : i = ds.length := by omega
    exact .inl ⟨wk.st H' (x'.vis.trans hid_sub), k.nx σ' H' δ' A' (x1.trans x') st' (fin δ' wi')⟩
/-- while, by an invariant and a measure -/
def tdWhile (t : TDt) (tb : TSd) : TSd := fun N δ => ∃ W : Nat → DSt → Prop, (∃ m, W m δ) ∧ ∀ m δ, W m δ → t δ fun b δ1 => if b = true then tb { N with nx := fun δ' => ∃ m', m' < m ∧ W m' δ', ct := fun δ' => ∃ m', m' < m ∧ W m' δ', bk := N.nx } δ1 else N.nx δ1
theorem ds_while {c : Expr} {body : List Stmt} {tc : TDt} {tb : TSd} {pos : Pos} (hp : PassesOwn (model X.prog X.w) X.A X.env X.xe) (hc : DT X c tc) (hb : DSs X body tb) : DS X (.While c body [] pos) (tdWhile tc tb) := by
  obtain ⟨t, p, q⟩ := hc.ex
  obtain ⟨u, p2, q2⟩ := hb.ex
  refine ⟨_, ps_while hp p p2, fun r S σ H δ A E N st ⟨W, ⟨m0, w0⟩, turn⟩ k => ?_⟩
  refine ⟨fun m σ' H' => ∃ δ' A', Ext r S A H A' H' ∧ StAt X.K r S H' σ' δ' A' ∧ W m δ', ⟨m0, δ, A, .refl, st, w0⟩, ?_⟩
  rintro m σ' H' ⟨δ', A', x', st', w'⟩
  refine q r S σ' H' δ' A' _ _ st' (turn m δ' w') fun b H1 δ1 A1 x1 st1 w1 => ?_
  have x2 := x'.trans x1
  cases b with
  | true =>
    rw [if_pos rfl] at w1 ⊢
    refine ⟨fun σ2 H2 => ∃ m', m' < m ∧ ∃ δ2 A2, Ext r S A H A2 H2 ∧ StAt X.K r S H2 σ2 δ2 A2 ∧ W m' δ2, fun σ2 H2 z => z, ?_⟩
    refine q2 r S σ' H1 δ1 A1 _ _ st1 w1 ⟨fun σ4 H4 δ4 A4 x5 st4 ⟨m', l, w4⟩ => ⟨m', l, δ4, A4, x2.trans x5, st4, w4⟩, (k.up x2).rt, (k.up x2).nx, fun σ4 H4 δ4 A4 x5 st4 ⟨m', l, w4⟩ => ⟨m', l, δ4, A4, x2.trans x5, st4, w4⟩⟩
  | false =>
    rw [if_neg Bool.false_ne_true] at w1 ⊢
    exact k.nx σ' H1 δ1 A1 x2 st1 w1
end
end DL

set_option Elab.async false
set_option linter.all false
set_option maxRecDepth 100000
set_option maxHeartbeats 4000000
namespace DL
open PySem PySem.Spec L2 PSG
/-! ### the strongest reading that data gives -/
def canE (K : PySem.W.Frag) (fr : Bool) (td : TEd) : TE := fun σ H Q => ∃ (r : Rp) (S : Addr → Prop) (δ : DSt) (A : Own) (Qd : D → DSt → Prop), StAt K r S H σ δ A ∧ td δ Qd ∧
  ∀ v H' d δ' A', Ext r S A H A' H' → StAt K r S H' σ δ' A' → Is fr K r (sa S A') H H' v d → (fr = true → ∀ p, v = .ref p → StAt K r (fun b => S b ∨ b = p) H' σ δ' A') → Qd d δ' → Q v H'
theorem DE.can {X : Cx} {fr : Bool} {e : Expr} {td : TEd} (h : DE X fr e td) : PE X e (canE X.K fr td) := by
  obtain ⟨t, p, g⟩ := h.ex
  exact ⟨fun pins s σ H Q I ⟨r, S, δ, A, Qd, st, w, k⟩ => p.run pins s σ H Q I (g r S σ H δ A Q Qd st w k)⟩
def canT (K : PySem.W.Frag) (td : TDt) : TT := fun σ H Q => ∃ (r : Rp) (S : Addr → Prop) (δ : DSt) (A : Own) (Qd : Bool → DSt → Prop), StAt K r S H σ δ A ∧ td δ Qd ∧
  ∀ b H' δ' A', Ext r S A H A' H' → StAt K r S H' σ δ' A' → Qd b δ' → Q b H'
theorem DT.can {X : Cx} {e : Expr} {td : TDt} (h : DT X e td) : PT X e (canT X.K td) := by
  obtain ⟨t, p, g⟩ := h.ex
  exact ⟨fun pins s σ H Q I ⟨r, S, δ, A, Qd, st, w, k⟩ => p.run pins s σ H Q I (g r S σ H δ A Q Qd st w k)⟩
def canG (K : PySem.W.Frag) (sl : List Nat) (td : TGd) : TG := fun v σ H Q => ∃ (r : Rp) (S : Addr → Prop) (δ : DSt) (A : Own) (d : D) (Qd : DSt → Prop), StAt K r S H σ δ A ∧ At K r (hid (sa S A) H) v d ∧ td d δ Qd ∧
  ∀ σ' δ' A', Ext r S A H A' H → StAt K r S H σ' δ' A' → Off sl σ σ' δ δ' A A' → Qd δ' → Q σ' H
theorem DG.can {X : Cx} {tg : Expr} {sl : List Nat} {td : TGd} (h : DG X tg sl td) : PG X tg (canG X.K sl td) := by
  obtain ⟨t, p, g⟩ := h.ex
  exact ⟨fun pins s σ H v u Q I rv ⟨r, S, δ, A, d, Qd, st, a, w, k⟩ => p.run pins s σ H v u Q I rv (g r S σ H δ A v d Q Qd st a w k)⟩
/-! ### states with slots forgotten -/
def wipeD (δ : DSt) : List Nat → DSt
  | [] => δ
  | v :: vs => (wipeD δ vs).set v none
theorem wipeD_length (δ : DSt) : ∀ vs : List Nat, (wipeD δ vs).length = δ.length
  | [] => rfl
  | v :: vs => by unfold wipeD; rw [List.length_set, wipeD_length δ vs]
theorem wipeD_in {δ : DSt} {j : Nat} : ∀ {vs : List Nat}, j ∈ vs → j < δ.length → (wipeD δ vs)[j]? = some none
  | [], h, _ => by cases h
  | v :: vs, h, l => by
    unfold wipeD
    by_cases hv : v = j
    · subst hv
      rw [List.getElem?_set_self (by rw [wipeD_length]; exact l)]
    · rw [List.getElem?_set_ne hv]
      rcases List.mem_cons.mp h with z | z
      · exact absurd z.symm hv
      · exact wipeD_in z l
theorem wipeD_off {δ : DSt} {j : Nat} : ∀ {vs : List Nat}, j ∉ vs → (wipeD δ vs)[j]? = δ[j]?
  | [], _ => rfl
  | v :: vs, h => by
    unfold wipeD
    rw [List.getElem?_set_ne fun z => h (by rw [z]; exact List.mem_cons_self)]
    exact wipeD_off fun z => h (List.mem_cons_of_mem _ z)
theorem wipe_in {δ : L2.St} {j : Nat} : ∀ {vs : List Nat}, j ∈ vs → j < δ.length → (wipe δ vs)[j]? = some none
  | [], h, _ => by cases h
  | v :: vs, h, l => by
    unfold wipe
    by_cases hv : v = j
    · subst hv
      rw [List.getElem?_set_self (by rw [wipe_length]; exact l)]
    · rw [List.getElem?_set_ne hv]
      rcases List.mem_cons.mp h with z | z
      · exact absurd z.symm hv
      · exact wipe_in z l
theorem wipe_off {δ : L2.St} {j : Nat} : ∀ {vs : List Nat}, j ∉ vs → (wipe δ vs)[j]? = δ[j]?
  | [], _ => rfl
  | v :: vs, h => by
    unfold wipe
    rw [List.getElem?_set_ne fun z => h (by rw [z]; exact List.mem_cons_self)]
    exact wipe_off fun z => h (List.mem_cons_of_mem _ z)
theorem wipeD_eq {δ δ' : DSt} {vs : List Nat} (l : δ'.length = δ.length) (h : ∀ j, j ∉ vs → δ'[j]? = δ[j]?) : wipeD δ' vs = wipeD δ vs := by
  refine List.ext_getElem? fun j => ?_
  by_cases hj : j ∈ vs
  · by_cases hl : j < δ.length
    · rw [wipeD_in hj hl, wipeD_in hj (by rw [l]; exact hl)]
    · rw [List.getElem?_eq_none (by rw [wipeD_length]; omega), List.getElem?_eq_none (by rw [wipeD_length]; omega)]
  · rw [wipeD_off hj, wipeD_off hj, h j hj]
theorem wipe_eq {δ δ' : L2.St} {vs : List Nat} (l : δ'.length = δ.length) (h : ∀ j, j ∉ vs → δ'[j]? = δ[j]?) : wipe δ' vs = wipe δ vs := by
  refine List.ext_getElem? fun j => ?_
  by_cases hj : j ∈ vs
  · by_cases hl : j < δ.length
    · rw [wipe_in hj hl, wipe_in hj (by rw [l]; exact hl)]
    · rw [List.getElem?_eq_none (by rw [wipe_length]; omega), List.getElem?_eq_none (by rw [wipe_length]; omega)]
  · rw [wipe_off hj, wipe_off hj, h j hj]
section
variable {K : PySem.W.Frag} {r : Rp} {S S2 : Addr → Prop} {H G : Hp} {σ : L2.St} {δ : DSt} {A A' : Own}
theorem StAt.wipe (st : StAt K r S H σ δ A) {vs : List Nat} (fr : ∀ i ∈ vs, A i = none) : StAt K r S H (L2.wipe σ vs) (wipeD δ vs) A where
  len := by rw [wipeD_length, wipe_length]; exact st.len
  fz := fun i d e => by
    by_cases hi : i ∈ vs
    · have il : i < δ.length := by rw [← wipeD_length δ vs]; exact (List.getElem?_eq_some_iff.mp e).1
      rw [wipeD_in hi il] at e
      cases e
    · rw [wipeD_off hi] at e
      obtain ⟨v, e1, t⟩ := st.fz i d e
      exact ⟨v, by rw [wipe_off hi]; exact e1, t⟩
  ow := fun i d e => by
    by_cases hi : i ∈ vs
    · have il : i < δ.length := by rw [← wipeD_length δ vs]; exact (List.getElem?_eq_some_iff.mp e).1
      rw [wipeD_in hi il] at e
      cases e
    · rw [wipeD_off hi] at e
      obtain ⟨a, e0, e1, t⟩ := st.ow i d e
      exact ⟨a, e0, by rw [wipe_off hi]; exact e1, t⟩
  own := fun i a e => by
    obtain ⟨⟨d, e1⟩, n, u⟩ := st.own i a e
    have hi : i ∉ vs := fun z => by rw [fr i z] at e; cases e
    exact ⟨⟨d, by rw [wipeD_off hi]; exact e1⟩, n, u⟩
  there := st.there
  pot := st.pot
/-- who owns what is told by the slots -/
theorem StAt.uniq (st : StAt K r S H σ δ A) (st' : StAt K r S2 G σ δ A') : A' = A := by
  funext i
  cases e : A i with
  | some a =>
    obtain ⟨⟨d, e1⟩, _⟩ := st.own i a e
    obtain ⟨a1, e2, e3, _⟩ := st.ow i d e1
    obtain ⟨a2, e4, e5, _⟩ := st'.ow i d e1
    rw [e3] at e5
    cases e5
    rw [e4, ← e2, e]
  | none =>
    cases e' : A' i with
    | none => rfl
    | some a =>
      obtain ⟨⟨d, e1⟩, _⟩ := st'.own i a e'
      obtain ⟨a1, e2, _⟩ := st.ow i d e1
      rw [e] at e2
      cases e2
/-- a hidden thing changed -/
theorem StAt.hidden (st : StAt K r S H σ δ A) {p : Addr} {o : HO} (hp : S p) (hr : r ≠ some p) : StAt K r S (upd H p o) σ δ A := by
  have vis : Same (hid (sa S A) H) (hid (sa S A) (upd H p o)) := fun b u e => by
    obtain ⟨n, e⟩ := hid_of e
    rw [hid_no n, upd_ne fun z => n (.inl (by rw [z]; exact hp))]
    exact e
  refine ⟨st.len, fun i d e => ?_, fun i d e => ?_, st.own, fun b z => ?_, fun a e => ⟨(st.pot a e).1, ?_⟩⟩
  · obtain ⟨v, e1, t⟩ := st.fz i d e
    exact ⟨v, e1, t.same vis⟩
  · obtain ⟨a, e0, e1, t⟩ := st.ow i d e
    exact ⟨a, e0, e1, t.same vis (upd_ne fun z => (st.own i a e0).2.1 (by rw [z]; exact hp))⟩
  · by_cases hb : b = p
    · rw [hb]
      exact ⟨_, upd_same⟩
    · rw [upd_ne hb]
      exact st.there b z
  · obtain ⟨x, y, e1, q⟩ := (st.pot a e).2
    exact ⟨x, y, (upd_ne fun z => hr (by rw [← z]; exact e)).trans e1, q⟩
/-- less is hidden -/
theorem StAt.less (st : StAt K r S2 H σ δ A) (h : ∀ b, S b → S2 b) (hr : ∀ a, r = some a → S a) : StAt K r S H σ δ A := by
  have sub : ∀ b, sa S A b → sa S2 A b := fun b z => z.elim (fun z => .inl (h b z)) .inr
  refine ⟨st.len, fun i d e => ?_, fun i d e => ?_, fun i a e => ?_, fun b z => st.there b (h b z), fun a e => ⟨hr a e, (st.pot a e).2⟩⟩
  · obtain ⟨v, e1, t⟩ := st.fz i d e
    exact ⟨v, e1, t.same (hid_mono sub)⟩
  · obtain ⟨a, e0, e1, t⟩ := st.ow i d e
    exact ⟨a, e0, e1, t.mono sub⟩
  · obtain ⟨h1, n, u⟩ := st.own i a e
    exact ⟨h1, fun z => n (h a z), u⟩
/-- the slots that were forgotten, again -/
theorem StAt.unwipe {vs : List Nat} (st : StAt K r S H σ δ A) (sw : StAt K r S2 G (L2.wipe σ vs) (wipeD δ vs) A) (fr : ∀ i ∈ vs, A i = none) (vis : Same (hid (sa S A) H) (hid (sa S2 A) G)) : StAt K r S2 G σ δ A := by
  refine ⟨st.len, fun i d e => ?_, fun i d e => ?_, fun i a e => ?_, sw.there, sw.pot⟩
  · obtain ⟨v, e1, t⟩ := st.fz i d e
    exact ⟨v, e1, t.same vis⟩
  · obtain ⟨a, e0, e1, _⟩ := st.ow i d e
    have hi : i ∉ vs := fun z => by rw [fr i z] at e0; cases e0
    obtain ⟨a2, e2, e3, t⟩ := sw.ow i d (by rw [wipeD_off hi]; exact e)
    exact ⟨a2, e2, by rw [wipe_off hi] at e3; exact e3, t⟩
  · obtain ⟨h1, _, u⟩ := st.own i a e
    exact ⟨h1, (sw.own i a e).2.1, u⟩
end
/-- none of these slots owns something -/
def unowned : List Nat → DSt → Prop
  | [], _ => True
  | i :: vs, δ => (match δ[i]? with
    | some (some (.ow _)) => False
    | _ => True) ∧ unowned vs δ
theorem unowned.at {δ : DSt} : ∀ {vs : List Nat}, unowned vs δ → ∀ i ∈ vs, ∀ d, δ[i]? ≠ some (some (.ow d))
  | [], _, _, h, _, _ => by cases h
  | v :: vs, h, i, m, d, e => by
    rcases List.mem_cons.mp m with z | z
    · subst z
      have z := h.1
      rw [e] at z
      exact z
    · exact unowned.at h.2 i z d e
theorem StAt.unow {K : PySem.W.Frag} {r : Rp} {S : Addr → Prop} {H : Hp} {σ : L2.St} {δ : DSt} {A : Own} (st : StAt K r S H σ δ A) {vs : List Nat} (h : unowned vs δ) : ∀ i ∈ vs, A i = none := fun i m => by
  cases e : A i with
  | none => rfl
  | some a =>
    obtain ⟨⟨d, e1⟩, _⟩ := st.own i a e
    exact absurd e1 (h.at i m d)
/-! ### list comprehensions -/
def tdLc (ti : TId) (g : TGd) (tt : TDt) (te : TEd) (vs : List Nat) : TEd := fun δ Q => ti δ fun ds δ1 => unowned vs δ1 ∧ ∃ W : Nat → List D → Prop, W 0 [] ∧
  (∀ i d acc, ds[i]? = some d → W i acc → g d (wipeD δ1 vs) fun δ2 => tt δ2 fun b δ3 => δ3 = δ2 ∧ if b = true then te δ2 fun y δ4 => δ4 = δ2 ∧ acc.length < sizeLine ∧ W (i + 1) (acc ++ [y]) else W (i + 1) acc) ∧ ∀ acc, W ds.length acc → Q (.lst acc) δ1
section
variable {X : Cx}
theorem lc_main {K : PySem.W.Frag} {wi : TI} {sl vs : List Nat} {ti : TId} {g : TGd} {tt : TDt} {te : TEd} {fr : Bool} (hsub : ∀ i ∈ sl, i ∈ vs)
    (hi : ∀ (r : Rp) (S : Addr → Prop) (σ : L2.St) (H : Hp) (δ : DSt) (A : Own) (R : It → Hp → Prop) (Qd : List D → DSt → Prop), StAt K r S H σ δ A → ti δ Qd →
      (∀ J H' ds δ' A', Ext r S A H A' H' → StAt K r S H' σ δ' A' → Wk K r (hid (sa S A') H') J ds → Qd ds δ' → R J H') → wi σ H R)
    (r : Rp) (S : Addr → Prop) (σ : L2.St) (H : Hp) (δ : DSt) (A : Own) (Q : VK) (Qd : D → DSt → Prop) (st : StAt K r S H σ δ A) (w : tdLc ti g tt te vs δ Qd)
    (k : ∀ v H' d δ' A', Ext r S A H A' H' → StAt K r S H' σ δ' A' → Is true K r (sa S A') H H' v d → (true = true → ∀ p, v = .ref p → StAt K r (fun b => S b ∨ b = p) H' σ δ' A') → Qd d δ' → Q v H') :
    tLc wi (canG K sl g) (canT K tt) (canE K fr te) vs σ H Q := by
  refine hi r S σ H δ A _ _ st w fun J H1 ds δ1 A1 x1 st1 wk ⟨un, W, w0, turn, fin⟩ => ?_
  intro Dn hD
  have free := st1.unow un
  have rD : r ≠ some Dn := fun z => by
    obtain ⟨o, e⟩ := (st1.pot Dn z).2.some
    rw [hD] at e
    cases e
  have nD : ¬ sa S A1 Dn := st1.thereA.free hD
  generalize hS : (fun b => S b ∨ b = Dn) = S2
  have S2D : S2 Dn := by rw [← hS]; exact .inr rfl
  have S2S : ∀ b, S b → S2 b := fun b z => by rw [← hS]; exact .inl z
  have S2o : ∀ b, S2 b → S b ∨ b = Dn := fun b z => by rw [← hS] at z; exact z
  -- what is seen without the new list is seen with it
  have keep : ∀ G : Hp, ∀ b o, b ≠ Dn → hid (sa S A1) G b = some o → hid (sa S2 A1) G b = some o := fun G b o nb e => by
    obtain ⟨n, e⟩ := hid_of e
    rw [hid_no]
    · exact e
    · rintro (z | z)
      · rcases S2o b z with z | z
        · exact n (.inl z)
        · exact nb z
      · exact n (.inr z)
  have old : ∀ G : Hp, Ext r S A1 H1 A1 G → Same (hid (sa S A1) H1) (hid (sa S2 A1) G) := fun G x b o e => keep G b o (fun z => by rw [z] at e; have z2 := hid_sub _ _ e; rw [hD] at z2; cases z2) (x.vis b o e)
  refine ⟨fun i m G => m = ds.length - i ∧ i ≤ ds.length ∧ ∃ acc accv, Ext r S A1 H1 A1 G ∧ StAt K r S2 G (wipe σ vs) (wipeD δ1 vs) A1 ∧ G Dn = some (.lst accv) ∧ AtL K r (hid (sa S2 A1) G) accv acc ∧ W i acc,
    ⟨_, rfl, Nat.zero_le _, [], [], .of (same_new hD), ?_, upd_same, .nil, w0⟩, ?_⟩
  · have z := (st1.goH (H' := upd H1 Dn (.lst [])) (.of (same_new hD)) (fun a e => (st1.pot a e).2.same (same_new hD)) hD ⟨_, upd_same⟩)
    rw [hS] at z
    exact z.wipe free
  · rintro i m G ⟨rfl, le, acc, accv, x, sw, gD, al, wi'⟩
    by_cases lt : i < ds.length
    · refine .inr ⟨wk.go G (x.vis.trans hid_sub) i lt, fun G2 => ∃ acc accv, Ext r S A1 H1 A1 G2 ∧ StAt K r S2 G2 (wipe σ vs) (wipeD δ1 vs) A1 ∧ G2 Dn = some (.lst accv) ∧ AtL K r (hid (sa S2 A1) G2) accv acc ∧ W (i + 1) acc,
        fun G2 z => ⟨ds.length - (i + 1), by omega, rfl, lt, z⟩, fun v G1 y => ?_⟩
      obtain ⟨d, e, s, a⟩ := wk.yl G _ (old G x) sw.thereA i v G1 lt y
      refine ⟨r, S2, wipeD δ1 vs, A1, d, _, sw.same s, a, turn i d acc e wi', fun σ2 δ2 A2 x2 st2 off w2 => ?_⟩
      have we : wipe σ2 vs = wipe σ vs := by
        rw [wipe_eq (δ := wipe σ vs) off.len (fun j hj => off.vs j fun z => hj (hsub j z))]
        exact wipe_eq (wipe_length _ _) fun j hj => wipe_off hj
      have A2e : A2 = A1 := by
        funext j
        rw [off.ow j]
        split
        · rename_i hj
          exact (free j (hsub j hj)).symm
        · rfl
      subst A2e
      have wd : wipeD δ2 vs = wipeD δ1 vs := by
        have l : δ2.length = (wipeD δ1 vs).length := by
          have z1 := st2.len
          have z2 := off.len
          have z3 := sw.len
          omega
        rw [wipeD_eq l (fun j hj => off.ds j fun z => hj (hsub j z))]
        exact wipeD_eq (wipeD_length _ _) fun j hj => wipeD_off hj
      refine ⟨we, r, S2, δ2, A2, _, st2, w2, fun b G3 δ3 A3 x3 st3 ⟨e3, w3⟩ => ?_⟩
      subst e3
      have A3e := st2.uniq st3
      subst A3e
      have inv : ∀ G4 : Hp, Ext r S2 A3 G1 A3 G4 → Ext r S A3 H1 A3 G4 := fun G4 x4 => ⟨fun b o e => by
          have nb : b ≠ Dn := fun z => by rw [z] at e; have z2 := hid_sub _ _ e; rw [hD] at z2; cases z2
          have e1 := keep G b o nb (x.vis b o e)
          have e2 := x4.vis b o (hid_same s b o e1)
          exact hid_mono (fun b z => z.elim (fun z => .inl (S2S b z)) .inr) b o e2, fun b o z n e => x4.hd b o (S2S b z) n (s b o (x.hd b o z n e)), fun _ _ e => .inl e, fun b o e => by
          obtain ⟨o1, e1⟩ := x.al b o e
          exact x4.al b o1 (s b o1 e1)⟩
      cases b with
      | false =>
        rw [if_neg Bool.false_ne_true] at w3 ⊢
        refine ⟨acc, accv, inv G3 x3, ?_, x3.hd Dn _ S2D rD (s _ _ gD), al.same ((hid_same s).trans x3.vis), w3⟩
        rw [← we, ← wd]
        exact st3.wipe free
      | true =>
        rw [if_pos rfl] at w3 ⊢
        refine ⟨r, S2, δ3, A3, _, st3, w3, fun y G4 yd δ4 A4 x4 st4 is4 _ ⟨e4, l4, w4⟩ => ?_⟩
        subst e4
        have A4e := st3.uniq st4
        subst A4e
        have x5 := x3.trans x4
        have gD4 : G4 Dn = some (.lst accv) := x5.hd Dn _ S2D rD (s _ _ gD)
        have hidD : Same (hid (sa S2 A4) G4) (hid (sa S2 A4) (upd G4 Dn (.lst (accv ++ [y])))) := fun b o e => by
          obtain ⟨n, e⟩ := hid_of e
          rw [hid_no n, upd_ne fun z => n (.inl (by rw [z]; exact S2D))]
          exact e
        have lv : accv.length = acc.length := al.length
        refine ⟨accv, gD4, by rw [lv]; exact l4, acc ++ [yd], accv ++ [y], ?_, ?_, upd_same, ?_, w4⟩
        · have z := inv G4 x5
          refine ⟨fun b o e => ?_, fun b o q n e => ?_, z.ow, fun b o e => ?_⟩
          · have nb : b ≠ Dn := fun z => by rw [z] at e; have z2 := hid_sub _ _ e; rw [hD] at z2; cases z2
            obtain ⟨n, e1⟩ := hid_of (z.vis b o e)
            rw [hid_no n, upd_ne nb]
            exact e1
          · rw [upd_ne fun z => by rw [z, hD] at e; cases e]
            exact z.hd b o q n e
          · by_cases hb : b = Dn
            · rw [hb]
              exact ⟨_, upd_same⟩
            · rw [upd_ne hb]
              exact z.al b o e
        · have z := (st4.wipe free).hidden (o := .lst (accv ++ [y])) S2D rD
          rw [we, wd] at z
          exact z
        · exact ((al.same ((hid_same s).trans x5.vis)).append (.cons is4.at_ .nil)).same hidD
    · obtain rfl : i = ds.length := by omega
      refine .inl ⟨wk.st G (x.vis.trans hid_sub), ?_⟩
      have stG2 : StAt K r S2 G σ δ1 A1 := st1.unwipe sw free (old G x)
      have stG : StAt K r S G σ δ1 A1 := stG2.less S2S fun a e => (st1.pot a e).1
      have sub : ∀ b, sa S A1 b → sa S2 A1 b := fun b z => z.elim (fun z => .inl (S2S b z)) .inr
      refine k (.ref Dn) G (.lst acc) δ1 A1 (x1.trans x) stG ⟨.lst ((hid_no nD).trans gD) (al.same (hid_mono sub)), fun _ => ⟨Dn, rfl, fresh_up x1 hD, .inl ⟨accv, acc, rfl, gD, al.same (hid_mono fun b z => ?_)⟩⟩⟩ (fun _ p e => ?_) (fin acc wi')
      · rcases z with z | z
        · exact sub b z
        · rw [z]
          exact .inl S2D
      · cases e
        rw [hS]
        exact stG2
def ttY : TDt := fun δ Q => Q true δ
theorem pts_yes {K : PySem.W.Frag} : PTs X [] (canT K ttY) := ⟨fun pins s σ H Q I ⟨r, S, δ, A, Qd, st, w, k⟩ => pts_nil.run pins s σ H Q I (k true H δ A .refl st w)⟩
theorem de_lc {elt tg iter : Expr} {scope : Scope} {own : List (Str × Nat)} {pos : Pos} {sl : List Nat} {ti : TId} {g : TGd} {te : TEd} {fr : Bool} (hc : X.calm = true) (hN : X.N.Nodup) (hi : DI X tg iter ti) (ok : BlkOk X.N X.env.scope scope own)
    (hg : ∀ (s : Shared) (H : Hp) (C : Addr) (cl : List (Str × Addr)) (fp : List Addr), DG (X.blk s H scope (compEnvC scope cl C X.env) fp) tg sl g)
    (he : ∀ (s : Shared) (H : Hp) (C : Addr) (cl : List (Str × Addr)) (fp : List Addr), DE (X.blk s H scope (compEnvC scope cl C X.env) fp) fr elt te) (hsub : ∀ i ∈ sl, i ∈ own.map (·.2) := by decide) (hs : ∀ x, foldedSetIterable iter X.env x = pure x := by intro _; rfl) :
    DE X true (.ListComp elt [⟨tg, iter, [], 0⟩] scope pos) (tdLc ti g ttY te (own.map (·.2))) := by
  obtain ⟨wi, p, q⟩ := hi.ex
  exact ⟨_, pe_lc (g := canG X.K sl g) (tt := canT X.K ttY) (te := canE X.K fr te) hc hN p ok (fun s H C cl fp => (hg s H C cl fp).can) (fun _ _ _ _ _ => pts_yes) (fun s H C cl fp => (he s H C cl fp).can) hs,
    fun r S σ H δ A Q Qd st w k => lc_main (fr := fr) hsub q r S σ H δ A Q Qd st w k⟩
/-- .. with a test -/
theorem de_lcT {elt tg iter c : Expr} {scope : Scope} {own : List (Str × Nat)} {pos : Pos} {sl : List Nat} {ti : TId} {g : TGd} {tt : TDt} {te : TEd} {fr : Bool} (hc : X.calm = true) (hN : X.N.Nodup) (hi : DI X tg iter ti) (ok : BlkOk X.N X.env.scope scope own)
    (hg : ∀ (s : Shared) (H : Hp) (C : Addr) (cl : List (Str × Addr)) (fp : List Addr), DG (X.blk s H scope (compEnvC scope cl C X.env) fp) tg sl g)
    (ht : ∀ (s : Shared) (H : Hp) (C : Addr) (cl : List (Str × Addr)) (fp : List Addr), DT (X.blk s H scope (compEnvC scope cl C X.env) fp) c tt)
    (he : ∀ (s : Shared) (H : Hp) (C : Addr) (cl : List (Str × Addr)) (fp : List Addr), DE (X.blk s H scope (compEnvC scope cl C X.env) fp) fr elt te) (hsub : ∀ i ∈ sl, i ∈ own.map (·.2) := by decide) (hs : ∀ x, foldedSetIterable iter X.env x = pure x := by intro _; rfl) :
    DE X true (.ListComp elt [⟨tg, iter, [c], 0⟩] scope pos) (tdLc ti g tt te (own.map (·.2))) := by
  obtain ⟨wi, p, q⟩ := hi.ex
  exact ⟨_, pe_lc (g := canG X.K sl g) (tt := canT X.K tt) (te := canE X.K fr te) hc hN p ok (fun s H C cl fp => (hg s H C cl fp).can) (fun s H C cl fp => pts_one (ht s H C cl fp).can) (fun s H C cl fp => (he s H C cl fp).can) hs,
    fun r S σ H δ A Q Qd st w k => lc_main (fr := fr) hsub q r S σ H δ A Q Qd st w k⟩
/-- x = [..] on one line -/
theorem ds_setLc {i : Nat} {y : Str} {py : Pos} {elt tg iter : Expr} {scope : Scope} {own : List (Str × Nat)} {pos spos : Pos} {sl : List Nat} {ti : TId} {g : TGd} {te : TEd} {fr : Bool} (hc : X.calm = true) (hN : X.N.Nodup) (hy : X.N[i]? = some y) (hyl : X.env.scope.names.lookup y = some .local)
    (hsw : swapsWith (.ListComp elt [⟨tg, iter, [], 0⟩] scope pos) (some (.Name y py)) spos.line X.env = pure true) (hi : DI X tg iter ti) (ok : BlkOk X.N X.env.scope scope own)
    (hg : ∀ (s : Shared) (H : Hp) (C : Addr) (cl : List (Str × Addr)) (fp : List Addr), DG (X.blk s H scope (compEnvC scope cl C X.env) fp) tg sl g)
    (he : ∀ (s : Shared) (H : Hp) (C : Addr) (cl : List (Str × Addr)) (fp : List Addr), DE (X.blk s H scope (compEnvC scope cl C X.env) fp) fr elt te) (hsub : ∀ i ∈ sl, i ∈ own.map (·.2) := by decide) (hs : ∀ x, foldedSetIterable iter X.env x = pure x := by intro _; rfl) :
    DS X (.Assign [.Name y py] (.ListComp elt [⟨tg, iter, [], 0⟩] scope pos) spos) (tdSet i (tdLc ti g ttY te (own.map (·.2)))) := by
  obtain ⟨wi, p, q⟩ := hi.ex
  refine ⟨_, ps_setLc (g := canG X.K sl g) (tt := canT X.K ttY) (te := canE X.K fr te) hc hN hy hyl hsw p ok (fun s H C cl fp => (hg s H C cl fp).can) (fun _ _ _ _ _ => pts_yes) (fun s H C cl fp => (he s H C cl fp).can) hs, fun r S σ H δ A E N st w k => ?_⟩
  exact lc_main (fr := fr) hsub q r S σ H δ A _ _ st w fun v H' d δ' A' x st' is _ q => k.nx _ H' _ _ (x.trans .drop) (st'.set (is.at_.same (hid_mono fun b z => sa_drop z))) q
theorem ds_setLcT {i : Nat} {y : Str} {py : Pos} {elt tg iter c : Expr} {scope : Scope} {own : List (Str × Nat)} {pos spos : Pos} {sl : List Nat} {ti : TId} {g : TGd} {tt : TDt} {te : TEd} {fr : Bool} (hc : X.calm = true) (hN : X.N.Nodup) (hy : X.N[i]? = some y) (hyl : X.env.scope.names.lookup y = some .local)
    (hsw : swapsWith (.ListComp elt [⟨tg, iter, [c], 0⟩] scope pos) (some (.Name y py)) spos.line X.env = pure true) (hi : DI X tg iter ti) (ok : BlkOk X.N X.env.scope scope own)
    (hg : ∀ (s : Shared) (H : Hp) (C : Addr) (cl : List (Str × Addr)) (fp : List Addr), DG (X.blk s H scope (compEnvC scope cl C X.env) fp) tg sl g)
    (ht : ∀ (s : Shared) (H : Hp) (C : Addr) (cl : List (Str × Addr)) (fp : List Addr), DT (X.blk s H scope (compEnvC scope cl C X.env) fp) c tt)
    (he : ∀ (s : Shared) (H : Hp) (C : Addr) (cl : List (Str × Addr)) (fp : List Addr), DE (X.blk s H scope (compEnvC scope cl C X.env) fp) fr elt te) (hsub : ∀ i ∈ sl, i ∈ own.map (·.2) := by decide) (hs : ∀ x, foldedSetIterable iter X.env x = pure x := by intro _; rfl) :
    DS X (.Assign [.Name y py] (.ListComp elt [⟨tg, iter, [c], 0⟩] scope pos) spos) (tdSet i (tdLc ti g tt te (own.map (·.2)))) := by
  obtain ⟨wi, p, q⟩ := hi.ex
  refine ⟨_, ps_setLc (g := canG X.K sl g) (tt := canT X.K tt) (te := canE X.K fr te) hc hN hy hyl hsw p ok (fun s H C cl fp => (hg s H C cl fp).can) (fun s H C cl fp => pts_one (ht s H C cl fp).can) (fun s H C cl fp => (he s H C cl fp).can) hs, fun r S σ H δ A E N st w k => ?_⟩
  exact lc_main (fr := fr) hsub q r S σ H δ A _ _ st w fun v H' d δ' A' x st' is _ q => k.nx _ H' _ _ (x.trans .drop) (st'.set (is.at_.same (hid_mono fun b z => sa_drop z))) q
end
/-! ### one after another: the forms one uses -/
/-- each element by itself -/
theorem lc_each {ds : List D} {vs : List Nat} {δ : DSt} {g : TGd} {te : TEd} {Q : D → DSt → Prop} (P : Nat → D → D → Prop) (un : unowned vs δ) (ln : ds.length < sizeLine)
    (turn : ∀ i d, ds[i]? = some d → g d (wipeD δ vs) fun δ2 => te δ2 fun y δ4 => δ4 = δ2 ∧ P i d y)
    (mono : ∀ δ2 (Q1 Q2 : D → DSt → Prop), (∀ y δ4, Q1 y δ4 → Q2 y δ4) → te δ2 Q1 → te δ2 Q2) (monog : ∀ d δ2 (Q1 Q2 : DSt → Prop), (∀ δ4, Q1 δ4 → Q2 δ4) → g d δ2 Q1 → g d δ2 Q2)
    (fin : ∀ ys : List D, ys.length = ds.length → (∀ i d y, ds[i]? = some d → ys[i]? = some y → P i d y) → Q (.lst ys) δ) :
    unowned vs δ ∧ ∃ W : Nat → List D → Prop, W 0 [] ∧ (∀ i d acc, ds[i]? = some d → W i acc → g d (wipeD δ vs) fun δ2 => ttY δ2 fun b δ3 => δ3 = δ2 ∧ if b = true then te δ2 fun y δ4 => δ4 = δ2 ∧ acc.length < sizeLine ∧ W (i + 1) (acc ++ [y]) else W (i + 1) acc) ∧ ∀ acc, W ds.length acc → Q (.lst acc) δ := by
  refine ⟨un, fun n acc => acc.length = n ∧ ∀ i d y, ds[i]? = some d → acc[i]? = some y → P i d y, ⟨rfl, fun i d y _ e => by simp at e⟩, fun i d acc e ⟨l, h⟩ => ?_, fun acc ⟨l, h⟩ => fin acc l h⟩
  refine monog d _ _ _ (fun δ2 q => ?_) (turn i d e)
  refine ⟨rfl, ?_⟩
  rw [if_pos rfl]
  refine mono δ2 _ _ (fun y δ4 ⟨e4, p⟩ => ⟨e4, ?_, by rw [List.length_append, l]; rfl, fun j d' y' e1 e2 => ?_⟩) q
  · have il := (List.getElem?_eq_some_iff.mp e).1
    omega
  · by_cases hj : j < acc.length
    · rw [List.getElem?_append_left hj] at e2
      exact h j d' y' e1 e2
    · rw [List.getElem?_append_right (by omega)] at e2
      have e3 : j - acc.length = 0 := by
        have z := (List.getElem?_eq_some_iff.mp e2).1
        simp only [List.length_cons, List.length_nil] at z
        omega
      rw [e3] at e2
      cases e2
      obtain rfl : j = i := by omega
      rw [e] at e1
      cases e1
      exact p
end DL

set_option Elab.async false
set_option linter.all false
set_option maxRecDepth 100000
set_option maxHeartbeats 4000000
namespace DL
open PySem PySem.Spec L2 PSG
/-! ### promises of defs, by data -/
structure FS where
  pre : List D → Prop
  post : List D → D → Prop
  fr : Bool := false
def spD (K : PySem.W.Frag) (n : Nat) (f : FS) : Sp := fun vs H Q _ => ∃ (r : Rp) (S : Addr → Prop) (ds : List D), There S H ∧ (∀ a, r = some a → S a ∧ Pt H a) ∧ AtL K r (hid S H) vs ds ∧ ds.length = n ∧ f.pre ds ∧
  ∀ v H' d, ButR r H H' → PtR r H' → Is f.fr K r S H H' v d → f.post ds d → Q v H'
/-- the def at the start -/
def startD (N : List Str) (ds : List D) : DSt := ds.map (fun d => some (Sl.fz d)) ++ List.replicate (N.length - ds.length) none
theorem sa_none {S : Addr → Prop} : sa S (fun _ => none) = S := by
  funext b
  refine propext ⟨fun z => ?_, .inl⟩
  rcases z with z | ⟨i, z⟩
  · exact z
  · cases z
theorem start_at {K : PySem.W.Frag} {r : Rp} {S : Addr → Prop} {H : Hp} {N : List Str} {vs : List V} {ds : List D} (th : There S H) (pt : ∀ a, r = some a → S a ∧ Pt H a) (al : AtL K r (hid S H) vs ds) : StAt K r S H (L2.start N vs) (startD N ds) (fun _ => none) where
  len := by
    unfold L2.start startD
    rw [List.length_append, List.length_append, List.length_map, List.length_map, List.length_replicate, List.length_replicate, al.length]
  fz := fun i d e => by
    unfold startD at e
    unfold L2.start
    by_cases hi : i < ds.length
    · rw [List.getElem?_append_left (by rw [List.length_map]; exact hi), List.getElem?_map] at e
      rw [List.getElem?_append_left (by rw [List.length_map, al.length]; exact hi), List.getElem?_map]
      cases q : ds[i]? with
      | none => rw [q] at e; cases e
      | some d' =>
        rw [q] at e
        cases e
        obtain ⟨v, e1, t⟩ := al.get q
        rw [e1, sa_none]
        exact ⟨v, rfl, t⟩
    · rw [List.getElem?_append_right (by rw [List.length_map]; omega)] at e
      rw [List.getElem?_replicate] at e
      split at e <;> cases e
  ow := fun i d e => by
    unfold startD at e
    by_cases hi : i < ds.length
    · rw [List.getElem?_append_left (by rw [List.length_map]; exact hi), List.getElem?_map] at e
      cases q : ds[i]? with
      | none => rw [q] at e; cases e
      | some d' => rw [q] at e; cases e
    · rw [List.getElem?_append_right (by rw [List.length_map]; omega)] at e
      rw [List.getElem?_replicate] at e
      split at e <;> cases e
  own := fun i a e => nomatch e
  there := th
  pot := pt
section
variable {P : Program} {w : World} {K : PySem.W.Frag} {mg : Str → Option Value} {base : Heap}
/-- a def's body, walked by data, gives its promise -/
theorem okD {x qual : Str} {st : Stmt} {f : Addr} {fd : FuncData} {N ps : List Str} {k : Nat} {fs : FS} (F : Fun K x qual st f fd) (S : FnScope N ps (defScope st))
    (hbody : ∀ X : Cx, (∃ (cdv : Value) (A : Around) (outer : List Env) (s : Shared) (H : Hp) (E : XK), X = (cxOf CX0 P w K mg base N qual (defScope st) f cdv A outer s H E).nox) → Room k X.A → X.A.guards = some [] →
      ∃ td, DSs X (defBody st) td ∧ ∀ ds : List D, ds.length = ps.length → fs.pre ds → td { nx := fun _ => fs.fr = false ∧ fs.post ds .non, rt := fun b d => (fs.fr = true → b = true) ∧ fs.post ds d } (startD N ds)) :
    FnG P w K mg base CX0 (k + 1) f fd ps (spD K ps.length fs) := by
  obtain ⟨oc, od, kV, doc, pm, an, cdv, ct, osl, rfl, lk, hcd⟩ := F.ex
  refine fnG lk hcd S (fun vs H Q E h => ?_) fun B up s H vs Q E room gd h => ?_
  · obtain ⟨r, S, ds, _, _, al, l, _⟩ := h
    rw [al.length, l]
  · obtain ⟨r, S0, ds, th, pt, al, l, pre, q⟩ := h
    obtain ⟨td, h1, h2⟩ := hbody (cxOf CX0 P w K mg base N qual (defScope st) f cdv B up s H E).nox ⟨cdv, B, up, s, H, E, rfl⟩ room gd
    obtain ⟨t, p, g⟩ := h1.ex
    refine ⟨t, p.nox, g r S0 (L2.start N vs) H (startD N ds) (fun _ => none) _ _ (start_at th pt al) (h2 ds l pre) ⟨fun σ' H' δ' A' x st' w => ?_, fun v H' σ' d δ' A' fb x st' a rt w => ?_, fun _ _ _ _ _ _ w => w.elim, fun _ _ _ _ _ _ w => w.elim⟩⟩
    · have bt : ButR r H H' := fun b o n e => by
        by_cases sb : S0 b
        · exact x.hd b o sb n e
        · have z : hid (sa S0 fun _ => none) H b = some o := by rw [sa_none, hid_no sb]; exact e
          exact hid_sub _ _ (x.vis b o z)
      refine q .non H' .non bt (fun a e => (st'.pot a e).2) ?_ w.2
      rw [w.1]
      exact .of .non
    · have bt : ButR r H H' := fun b o n e => by
        by_cases sb : S0 b
        · exact x.hd b o sb n e
        · have z : hid (sa S0 fun _ => none) H b = some o := by rw [sa_none, hid_no sb]; exact e
          exact hid_sub _ _ (x.vis b o z)
      refine q v H' d bt (fun a e => (st'.pot a e).2) ⟨a.same (hid_mono fun b z => .inl z), fun fr => ?_⟩ w.2
      obtain ⟨p, e, o, t⟩ := rt (w.1 fr)
      refine ⟨p, e, ?_, t⟩
      rcases o with o | ⟨i, o⟩
      · exact o
      · cases o
end
/-! ### calls -/
def tdCall (f : FS) (dd : List D) (td : TAd) : TEd := fun δ Q => td δ fun ds δ1 => f.pre (ds ++ dd) ∧ ∀ d, f.post (ds ++ dd) d → Q d δ1
section
variable {X : Cx}
theorem call_gd {r : Rp} {S : Addr → Prop} {σ : L2.St} {H H1 : Hp} {δ1 : DSt} {A A1 : Own} {Q : VK} {Qd : D → DSt → Prop} {E : XK} {f : FS} {n : Nat} {vs : List V} {ds : List D} (x1 : Ext r S A H A1 H1) (st1 : StAt X.K r S H1 σ δ1 A1)
    (al : AtL X.K r (hid (sa S A1) H1) vs ds) (ln : ds.length = n) (pre : f.pre ds) (q : ∀ d, f.post ds d → Qd d δ1)
    (k : ∀ v H' d δ' A', Ext r S A H A' H' → StAt X.K r S H' σ δ' A' → Is f.fr X.K r (sa S A') H H' v d → (f.fr = true → ∀ p, v = .ref p → StAt X.K r (fun b => S b ∨ b = p) H' σ δ' A') → Qd d δ' → Q v H') : spD X.K n f vs H1 Q E := by
  refine ⟨r, sa S A1, ds, st1.thereA, fun a e => ⟨.inl (st1.pot a e).1, (st1.pot a e).2⟩, al, ln, pre, fun v H' d bt pt is po => ?_⟩
  have st' := st1.go bt pt
  refine k v H' d δ1 A1 (x1.trans (.but st1 bt pt)) st' ⟨is.at_, fun fr => ?_⟩ (fun fr p e => ?_) (q d po)
  · obtain ⟨p, e, n, t⟩ := is.new fr
    exact ⟨p, e, fresh_up x1 n, t⟩
  · obtain ⟨p', e', n, t⟩ := is.new fr
    rw [e] at e'
    cases e'
    exact st1.goH bt pt n t.some
theorem de_call {f : Addr} {fd : FuncData} {ps : List Str} {n : Nat} {k : Nat} {fs : FS} {ds0 : List Value} {dvs : List V} {dd : List D} {x : Str} {p pos : Pos} {e : Expr} {es : List Expr} {td : TAd}
    (F : FnG X.prog X.w X.K X.mg X.base CX0 k f fd ps (spD X.K n fs)) (room : Room k X.A) (gd : X.A.guards = some []) (hg : Gl X x) (hm : X.mg x = some (.ref f)) (kp : PySem.W.keepIn X.K (.ref f) = true)
    (bi : Binds X.K fd ps ds0) (dv : Vals dvs ds0) (dat : ∀ r H, AtL X.K r H dvs dd) (ha : DAs X (e :: es) td) (nd : (x == ("__debug__" : Str)) = false := by decide)
    (se : starEach (e :: es) X.env = (false, eval e X.env) :: starEach es X.env := by rfl) (sn : (backTo pos (starEach es X.env)).any (·.1) = false := by rfl) :
    DE X fs.fr (.Call (.Name x p) (e :: es) [] pos) (fun δ Q => td δ fun ds δ1 => ds.length + dd.length = n ∧ fs.pre (ds ++ dd) ∧ ∀ d, fs.post (ds ++ dd) d → Q d δ1) := by
  obtain ⟨t, q, g⟩ := ha.ex
  refine ⟨_, pe_callG (E := E0) F room gd hg hm kp bi dv pass0 q nd se sn, fun r S σ H δ A Q Qd st w k => g r S σ H δ A _ _ st w fun vs H1 ds δ1 A1 x1 st1 al ⟨ln, pre, po⟩ => ?_⟩
  exact call_gd x1 st1 (al.append (dat _ _)) (by rw [List.length_append]; exact ln) pre po k
/-- no defaults -/
theorem de_call1 {f : Addr} {fd : FuncData} {ps : List Str} {n : Nat} {k : Nat} {fs : FS} {x : Str} {p pos : Pos} {e : Expr} {es : List Expr} {td : TAd}
    (F : FnG X.prog X.w X.K X.mg X.base CX0 k f fd ps (spD X.K n fs)) (room : Room k X.A) (gd : X.A.guards = some []) (hg : Gl X x) (hm : X.mg x = some (.ref f)) (kp : PySem.W.keepIn X.K (.ref f) = true)
    (bi : Binds X.K fd ps []) (ha : DAs X (e :: es) td) (nd : (x == ("__debug__" : Str)) = false := by decide)
    (se : starEach (e :: es) X.env = (false, eval e X.env) :: starEach es X.env := by rfl) (sn : (backTo pos (starEach es X.env)).any (·.1) = false := by rfl) :
    DE X fs.fr (.Call (.Name x p) (e :: es) [] pos) (fun δ Q => td δ fun ds δ1 => ds.length = n ∧ fs.pre ds ∧ ∀ d, fs.post ds d → Q d δ1) := by
  obtain ⟨t, q, g⟩ := ha.ex
  refine ⟨_, pe_callG (E := E0) F room gd hg hm kp bi .nil pass0 q nd se sn, fun r S σ H δ A Q Qd st w k => g r S σ H δ A _ _ st w fun vs H1 ds δ1 A1 x1 st1 al ⟨ln, pre, po⟩ => ?_⟩
  rw [List.append_nil]
  exact call_gd x1 st1 al ln pre po k
/-- what it gives is flat: lists of slots' own may be handed on -/
def FS.Flat (f : FS) : Prop := f.fr = false ∧ ∀ ds d, f.post ds d → d.flat = true
theorem flat_at {K : PySem.W.Frag} {r : Rp} {H H' : Hp} {v : V} {d : D} (h : At K r H v d) (f : d.flat = true) : At K r H' v d := by
  cases h <;> first | (cases f; done) | constructor
theorem AtPs.all {K : PySem.W.Frag} {r : Rp} {S : Addr → Prop} {σ : L2.St} {δ : DSt} {A : Own} {H : Hp} (st : StAt K r S H σ δ A) : ∀ {vs : List V} {ds : List D}, AtPs K r (sa S A) H vs ds → (∀ p d, AtP K r (sa S A) H (.ref p) d → TopAt K r (sa S A) H p d → ¬ S p) → AtL K r (hid S H) vs ds
  | _, _, .nil, _ => .nil
  | _, _, .cons h t, n => by
    refine .cons ?_ (AtPs.all st t n)
    cases h with
    | top z => exact z.at (fun b z => .inl z) (n _ _ (.top z) z)
    | at_ z => exact z.same (hid_mono fun b z => .inl z)
end
/-! ### lists of a slot's own, changed -/
section
variable {K : PySem.W.Frag} {r : Rp} {S : Addr → Prop} {H : Hp} {σ : L2.St} {δ : DSt} {A : Own}
theorem StAt.mut (st : StAt K r S H σ δ A) {i : Nat} {a : Addr} {o : HO} {d : D} (ea : A i = some a) (ev : σ[i]? = some (some (.ref a))) (t : TopAt K r (sa S A) (upd H a o) a d) :
    Ext r S A H A (upd H a o) ∧ StAt K r S (upd H a o) σ (δ.set i (some (.ow d))) A := by
  obtain ⟨⟨d0, e0⟩, na, ua⟩ := st.own i a ea
  have il : i < δ.length := (List.getElem?_eq_some_iff.mp e0).1
  have vis : Same (hid (sa S A) H) (hid (sa S A) (upd H a o)) := fun b u e => by
    obtain ⟨n, e⟩ := hid_of e
    rw [hid_no n, upd_ne fun z => n (.inr ⟨i, by rw [z]; exact ea⟩)]
    exact e
  have ra : r ≠ some a := fun z => na (st.pot a z).1
  refine ⟨⟨vis, fun b u z _ e => by rw [upd_ne fun y => na (by rw [← y]; exact z)]; exact e, fun _ _ e => .inl e, fun b u e => ?_⟩, ⟨by rw [List.length_set]; exact st.len, fun j c e => ?_, fun j c e => ?_, fun j c e => ?_, fun b z => ?_, fun c e => ⟨(st.pot c e).1, ?_⟩⟩⟩
  · by_cases hb : b = a
    · rw [hb]
      exact ⟨_, upd_same⟩
    · rw [upd_ne hb]
      exact ⟨_, e⟩
  · by_cases hj : i = j
    · subst hj
      rw [List.getElem?_set_self il] at e
      cases e
    · rw [List.getElem?_set_ne hj] at e
      obtain ⟨v, e1, t⟩ := st.fz j c e
      exact ⟨v, e1, t.same vis⟩
  · by_cases hj : i = j
    · subst hj
      rw [List.getElem?_set_self il] at e
      cases e
      exact ⟨a, ea, ev, t⟩
    · rw [List.getElem?_set_ne hj] at e
      obtain ⟨b, e1, e2, t⟩ := st.ow j c e
      exact ⟨b, e1, e2, t.same vis (upd_ne fun z => hj (ua j (by rw [← z]; exact e1)).symm)⟩
  · obtain ⟨⟨d1, e1⟩, n, u⟩ := st.own j c e
    refine ⟨?_, n, u⟩
    by_cases hj : i = j
    · subst hj
      exact ⟨d, List.getElem?_set_self il⟩
    · exact ⟨d1, by rw [List.getElem?_set_ne hj]; exact e1⟩
  · obtain ⟨u, e⟩ := st.there b z
    exact ⟨u, by rw [upd_ne fun y => na (by rw [← y]; exact z)]; exact e⟩
  · exact (st.pot c e).2.elim fun x ⟨y, e1, q⟩ => ⟨x, y, by rw [upd_ne fun z => ra (by rw [← z]; exact e)]; exact e1, q⟩
theorem StAt.hidA (st : StAt K r S H σ δ A) {i : Nat} {a : Addr} {o : HO} {xs : List V} {ds : List D} (ea : A i = some a) (t : AtL K r (hid (sa S A) H) xs ds) : AtL K r (hid (sa S A) (upd H a o)) xs ds :=
  t.same fun b u e => by
    obtain ⟨n, e⟩ := hid_of e
    rw [hid_no n, upd_ne fun z => n (.inr ⟨i, by rw [z]; exact ea⟩)]
    exact e
/-- the list that slot i owns -/
def owL (i : Nat) (δ : DSt) (Q : List D → Prop) : Prop := match δ[i]? with
  | some (some (.ow (.lst ds))) => Q ds
  | _ => False
theorem StAt.owL (st : StAt K r S H σ δ A) {i : Nat} {Q : List D → Prop} (w : DL.owL i δ Q) : ∃ ds a xs, Q ds ∧ A i = some a ∧ σ[i]? = some (some (.ref a)) ∧ H a = some (.lst xs) ∧ AtL K r (hid (sa S A) H) xs ds := by
  unfold DL.owL at w
  split at w
  · rename_i ds q
    obtain ⟨a, e1, e2, t⟩ := st.ow i _ q
    rcases t with ⟨xs, ds', e3, e4, t⟩ | ⟨_, _, e3, _⟩
    · cases e3
      exact ⟨ds, a, xs, w, e1, e2, e4, t⟩
    · cases e3
  · exact w.elim
end
/-- a method that changes the list -/
abbrev PM := List D → List D → (List D → D → Prop) → Prop
def MutD (K : PySem.W.Frag) (rr : V → List V → Hp → VK → Prop) (p : PM) : Prop := ∀ (r : Rp) (S : Addr → Prop) (H : Hp) (a : Addr) (xs vs : List V) (ds es : List D) (Q : VK) (Qd : List D → D → Prop), H a = some (.lst xs) → S a → AtL K r (hid S H) xs ds → AtL K r (hid S H) vs es → p ds es Qd →
  (∀ xs' v ds' d, AtL K r (hid S H) xs' ds' → At K r (hid S H) v d → Qd ds' d → Q v (upd H a (.lst xs'))) → rr (.ref a) vs H Q
def tdMut (i : Nat) (p : PM) (td : TAd) : TEd := fun δ Q => owL i δ (fun _ => True) ∧ td δ fun es δ1 => owL i δ1 fun ds => p ds es fun ds' d => Q d (δ1.set i (some (.ow (.lst ds'))))
section
variable {X : Cx}
theorem mut_gd {i : Nat} {p : PM} {rr : V → List V → Hp → VK → Prop} {td : TAd} {t : TA} (hm : MutD X.K rr p)
    (g : ∀ (r : Rp) (S : Addr → Prop) (σ : L2.St) (H : Hp) (δ : DSt) (A : Own) (Q : List V → Hp → Prop) (Qd : List D → DSt → Prop), StAt X.K r S H σ δ A → td δ Qd →
      (∀ vs H' ds δ' A', Ext r S A H A' H' → StAt X.K r S H' σ δ' A' → AtL X.K r (hid (sa S A') H') vs ds → Qd ds δ' → Q vs H') → t σ H Q)
    (r : Rp) (S : Addr → Prop) (σ : L2.St) (H : Hp) (δ : DSt) (A : Own) (Q : VK) (Qd : D → DSt → Prop) (st : StAt X.K r S H σ δ A) (w : tdMut i p td δ Qd)
    (k : ∀ v H' d δ' A', Ext r S A H A' H' → StAt X.K r S H' σ δ' A' → Is false X.K r (sa S A') H H' v d → (false = true → ∀ p, v = .ref p → StAt X.K r (fun b => S b ∨ b = p) H' σ δ' A') → Qd d δ' → Q v H') :
    tBM X.K "list" rr (tVar i) t σ H Q := by
  obtain ⟨_, a, xs, _, ea, ev, eh, t⟩ := st.owL w.1
  refine ⟨_, ev, .inl ⟨rfl, _, SqL.of eh⟩, ?_⟩
  refine g r S σ H δ A _ _ st w.2 fun vs H1 es δ1 A1 x1 st1 al w2 => ?_
  obtain ⟨ds, a1, xs1, q, ea1, ev1, eh1, t1⟩ := st1.owL w2
  rw [ev] at ev1
  cases ev1
  refine hm r (sa S A1) H1 a xs1 vs ds es Q _ eh1 (.inr ⟨i, ea1⟩) t1 al q fun xs' v ds' d t2 at2 q2 => ?_
  obtain ⟨x2, st2⟩ := st1.mut (o := .lst xs') (d := .lst ds') ea1 ev (.inl ⟨_, _, rfl, upd_same, st1.hidA ea1 t2⟩)
  refine k v _ d _ A1 (x1.trans x2) st2 (.of ?_) (fun z => nomatch z) q2
  have z := st1.hidA (o := .lst xs') ea1 (.cons at2 .nil)
  cases z with
  | cons z _ => exact z
theorem de_mut {name : Str} {id : String} {p : PM} {rr : V → List V → Hp → VK → Prop} (i : Nat) {x : Str} {npos apos cpos : Pos} {e : Expr} {es : List Expr} {td : TAd} (slot : Slot "list" name id) (hty : typeOf (.builtin id) = pure (.type "method_descriptor")) (hmt : MtM X id rr) (hm : MutD X.K rr p)
    (he : DAs X (e :: es) td) (hN : X.N[i]? = some x := by rfl) (hv : Vis X.env.scope x := by first | exact Or.inl rfl | exact Or.inr (Or.inl rfl) | exact Or.inr (Or.inr rfl)) (hd : (x == ("__debug__" : Str)) = false := by decide)
    (hcd : (x == ("__classdict__" : Str)) = false := by decide) (hbase : attributeBase (.Name x npos) name X.env (eval (.Name x npos) X.env) = eval (.Name x npos) X.env := by rfl)
    (hfew : ((backTo cpos (starEach (e :: es) X.env)).all (fun x => !x.1) && (backToKw cpos (keywordEach [] X.env)).all (fun x => x.1.isSome)
      && decide ((e :: es).length + ([] : List Keyword).length + (if ([] : List Keyword).isEmpty then 0 else 1) < 30)) = true := by rfl) (hline : (apos.endLine == cpos.line) = true := by rfl)
    (hse : starEach (e :: es) X.env = (false, eval e X.env) :: starEach es X.env := by rfl) (hplain : (backTo cpos (starEach es X.env)).any (·.1) = false := by rfl) : DE X false (.Call (.Attribute (.Name x npos) name apos) (e :: es) [] cpos) (tdMut i p td) := by
  obtain ⟨t, q, g⟩ := he.ex
  exact ⟨_, pe_bm PySem.F.plainAttrs_list slot hty hmt (pe_var hN hv hd hcd) q hbase hfew hline hse hplain, fun r S σ H δ A Q Qd st w k => mut_gd hm g r S σ H δ A Q Qd st w k⟩
def pmAppend : PM := fun ds es Q => match es with
  | [d] => ds.length < sizeLine ∧ Q (ds ++ [d]) .non
  | _ => False
theorem mut_append {K : PySem.W.Frag} : MutD K rAppend pmAppend := by
  intro r S H a xs vs ds es Q Qd e sa t al w k
  match es, al, w with
  | [d], al, w =>
    obtain ⟨v, rfl, h⟩ := al.one
    exact ⟨a, xs, v, rfl, rfl, e, by rw [t.length]; exact w.1, k _ .non _ .non (t.append (.cons h .nil)) .non w.2⟩
def pmExtend : PM := fun ds es Q => match es with
  | [.lst ys] => ds.length + ys.length ≤ sizeLine ∧ Q (ds ++ ys) .non
  | _ => False
theorem mut_extend {K : PySem.W.Frag} : MutD K rExtend pmExtend := by
  intro r S H a xs vs ds es Q Qd e sa t al w k
  match es, al, w with
  | [.lst ys], al, w =>
    obtain ⟨v, rfl, h⟩ := al.one
    cases h with
    | @lst b zs _ eb tb => exact ⟨a, b, xs, zs, rfl, rfl, e, hid_sub _ _ eb, by rw [t.length, tb.length]; exact w.1, k _ .non _ .non (t.append tb) .non w.2⟩
def pmPopAt : PM := fun ds es Q => match es with
  | [.int i] => (-(2 ^ 63) ≤ i ∧ i < 2 ^ 63) ∧ ∃ k y, seqIndex? i ds.length = some k ∧ ds[k]? = some y ∧ Q (ds.eraseIdx k) y
  | _ => False
theorem mut_popAt {K : PySem.W.Frag} : MutD K rPopAt pmPopAt := by
  intro r S H a xs vs ds es Q Qd e sa t al w k
  match es, al, w with
  | [.int i], al, w =>
    obtain ⟨v, rfl, h⟩ := al.one
    cases h
    obtain ⟨⟨l1, l2⟩, j, y, e1, e2, q⟩ := w
    obtain ⟨yv, e3, a3⟩ := t.get e2
    exact ⟨a, xs, i, j, yv, rfl, rfl, e, l1, l2, by rw [t.length]; exact e1, e3, k _ yv _ y (t.erase j) a3 q⟩
end
end DL

set_option Elab.async false
set_option linter.all false
set_option maxRecDepth 100000
set_option maxHeartbeats 4000000
namespace DL
open PySem PySem.Spec L2 PSG
/-! ### slices -/
abbrev TOd := DSt → (Option Int → DSt → Prop) → Prop
structure DO (X : Cx) (e : Option Expr) (td : TOd) : Prop where
  ex : ∃ t, PO X e t ∧ ∀ (r : Rp) (S : Addr → Prop) (σ : L2.St) (H : Hp) (δ : DSt) (A : Own) (Q : Option Int → Hp → Prop) (Qd : Option Int → DSt → Prop), StAt X.K r S H σ δ A → td δ Qd →
    (∀ o H' δ' A', Ext r S A H A' H' → StAt X.K r S H' σ δ' A' → Qd o δ' → Q o H') → t σ H Q
def tdoN : TOd := fun δ Q => Q none δ
def tdoS (te : TEd) : TOd := fun δ Q => te δ fun d δ' => match d with
  | .int i => Q (some i) δ'
  | _ => False
def cutD (xs : List D) (lo hi : Option Int) : List D := (xs.drop (HT.sIx xs.length 0 lo)).take (HT.sIx xs.length xs.length hi - HT.sIx xs.length 0 lo)
abbrev P3 := D → Option Int → Option Int → (D → Prop) → Prop
def SlD (K : PySem.W.Frag) (fr : Bool) (rr : V → Option Int → Option Int → Hp → VK → Prop) (p : P3) : Prop := ∀ (r : Rp) (S : Addr → Prop) (H : Hp) (x : V) (a : D) (lo hi : Option Int) (Q : VK) (Qd : D → Prop), There S H → AtP K r S H x a → p a lo hi Qd →
  (∀ v H' d, Same H H' → Is fr K r S H H' v d → Qd d → Q v H') → rr x lo hi H Q
def tdSl (p : P3) (pa : TPd) (tl th : TOd) : TEd := fun δ Q => pa δ fun La δ1 => tl δ1 fun lo δ2 => th δ2 fun hi δ3 => match La δ3 with
  | some a => p a lo hi fun d => Q d δ3
  | none => False
section
variable {X : Cx}
theorem do_none : DO X none tdoN := ⟨_, po_none, fun r S σ H δ A Q Qd st w k => k none H δ A .refl st w⟩
theorem do_some {fr : Bool} {e : Expr} {te : TEd} (h : DE X fr e te) : DO X (some e) (tdoS te) := by
  obtain ⟨t, p, g⟩ := h.ex
  refine ⟨_, po_some p, fun r S σ H δ A Q Qd st w k => g r S σ H δ A _ _ st w fun v H' d δ' A' x st' is _ q => ?_⟩
  cases d with
  | int i =>
    have a := is.at_
    cases a
    exact ⟨i, rfl, k _ H' δ' A' x st' q⟩
  | _ => exact q.elim
theorem de_slice {fr : Bool} {rr : V → Option Int → Option Int → Hp → VK → Prop} {p : P3} {e : Expr} {lo hi : Option Expr} {pa : TPd} {tl th : TOd} {p2 pos : Pos} (hr : SlR X rr) (hp : SlD X.K fr rr p) (he : DP X e pa) (hl : DO X lo tl) (hh : DO X hi th) :
    DE X fr (.Subscript e (.Slice lo hi none p2) pos) (tdSl p pa tl th) := by
  obtain ⟨t, q, g⟩ := he.ex
  obtain ⟨t2, q2, g2⟩ := hl.ex
  obtain ⟨t3, q3, g3⟩ := hh.ex
  refine ⟨_, pe_slice hr q q2 q3, fun r S σ H δ A Q Qd st w k => ?_⟩
  refine g r S σ H δ A _ _ st w fun x H1 La δ1 A1 x1 st1 la w1 => ?_
  refine g2 r S σ H1 δ1 A1 _ _ st1 w1 fun lo H2 δ2 A2 x2 st2 w2 => ?_
  refine g3 r S σ H2 δ2 A2 _ _ st2 w2 fun hi H3 δ3 A3 x3 st3 w3 => ?_
  cases ea : La δ3 with
  | none => rw [ea] at w3; exact w3.elim
  | some a =>
    rw [ea] at w3
    refine hp r (sa S A3) H3 x a lo hi Q _ st3.thereA (la _ _ _ _ (x2.trans x3) st3 ea) w3 fun v H' d s is q => ?_
    have xx := x1.trans (x2.trans x3)
    refine k v H' d δ3 A3 (xx.then s) (st3.same s) ⟨is.at_, fun f => ?_⟩ (fun f p' e0 => ?_) q
    · obtain ⟨p, e1, e2, e3⟩ := is.new f
      exact ⟨p, e1, fresh_up xx e2, e3⟩
    · obtain ⟨p, e1, e2, e3⟩ := is.new f
      rw [e0] at e1
      cases e1
      exact st3.goH (.of s) (fun a z => ((st3.same s).pot a z).2) e2 e3.some
end
section
variable {K : PySem.W.Frag}
theorem AtL.cut {r : Rp} {H : Hp} {vs : List V} {ds : List D} (t : AtL K r H vs ds) (lo hi : Option Int) : AtL K r H (cutV vs lo hi) (cutD ds lo hi) := by
  unfold cutV cutD
  rw [t.length]
  exact (t.drop _).take _
def pSlL : P3 := fun a lo hi Q => match a with
  | .lst ds => Q (.lst (cutD ds lo hi))
  | _ => False
theorem sl_l : SlD K true (rSlL K) pSlL := by
  intro r S H x a lo hi Q Qd th ha w k
  cases a with
  | lst ds =>
    obtain ⟨p, xs, rfl, e, t⟩ := ha.list
    exact ⟨p, xs, rfl, SqL.of e, fun z hz => k _ _ _ (same_new hz) (.newL th hz (t.cut lo hi)) w⟩
  | _ => exact w.elim
def pSlT : P3 := fun a lo hi Q => match a with
  | .tup ds => Q (.tup (cutD ds lo hi))
  | _ => False
theorem sl_t : SlD K false (rSlA K) pSlT := by
  intro r S H x a lo hi Q Qd th ha w k
  cases a with
  | tup ds =>
    have h0 := ha.tupAt
    obtain ⟨p, xs, rfl, e, t⟩ := ha.tuple
    refine ⟨p, xs, rfl, e, fun ⟨z1, z2⟩ => ?_, fun _ z hz => k _ _ _ (same_new hz) (.newT th hz (t.cut lo hi)) w⟩
    have e : cutD ds lo hi = ds := by
      unfold cutD
      rw [t.length] at z1 z2
      rw [z1, z2]
      simp
    have w2 : Qd (.tup (cutD ds lo hi)) := w
    rw [e] at w2
    exact k _ H _ (Same.refl _) (.of h0) w2
  | _ => exact w.elim
def pSlS : P3 := fun a lo hi Q => match a with
  | .str z => z.length ≤ sizeLine ∧ Q (.str (cutS z lo hi))
  | _ => False
theorem sl_s : SlD K false rSlS pSlS := by
  intro r S H x a lo hi Q Qd th ha w k
  cases a with
  | str z =>
    obtain rfl := ha.str
    exact ⟨z, rfl, w.1, k _ H _ (Same.refl _) (.of (.str _)) w.2⟩
  | _ => exact w.elim
end
/-! ### methods of texts -/
def M1D (K : PySem.W.Frag) (fr : Bool) (rr : V → List V → Hp → VK → Prop) (p : P2) : Prop := ∀ (r : Rp) (S : Addr → Prop) (H : Hp) (x y : V) (a b : D) (Q : VK) (Qd : D → Prop), There S H → AtP K r S H x a → AtP K r S H y b → p a b Qd →
  (∀ v H' d, Same H H' → Is fr K r S H H' v d → Qd d → Q v H') → rr x [y] H Q
def tdM1 (p : P2) (pa pb : TPd) : TEd := fun δ Q => pa δ fun La δ1 => (∃ z, La δ1 = some (.str z)) ∧ pb δ1 fun Lb δ2 => match La δ2, Lb δ2 with
  | some x, some y => p x y fun d => Q d δ2
  | _, _ => False
section
variable {X : Cx}
theorem de_m1 {fr : Bool} {id : String} {name : Str} {apos pos : Pos} {rr : V → List V → Hp → VK → Prop} {p : P2} {o e : Expr} {pa pb : TPd} (slot : Slot "str" name id) (ty : typeOf (.builtin id) = pure (.type "method_descriptor")) (rule : MtR X id rr) (hp : M1D X.K fr rr p) (ho : DP X o pa) (he : DP X e pb)
    (hs : starEach [e] X.env = [(false, eval e X.env)] := by rfl) (hbase : attributeBase o name X.env (eval o X.env) = eval o X.env := by rfl) (hline : (apos.endLine == pos.line) = true := by rfl) :
    DE X fr (.Call (.Attribute o name apos) [e] [] pos) (tdM1 p pa pb) := by
  obtain ⟨t, q, g⟩ := ho.ex
  obtain ⟨t2, q2, g2⟩ := he.ex
  refine ⟨_, pe_m1 slot ty rule q q2 hs hbase hline, fun r S σ H δ A Q Qd st w k => ?_⟩
  refine g r S σ H δ A _ _ st w fun x H1 La δ1 A1 x1 st1 la ⟨⟨z, ez⟩, w1⟩ => ?_
  refine ⟨⟨z, (la _ _ _ _ .refl st1 ez).str⟩, ?_⟩
  refine g2 r S σ H1 δ1 A1 _ _ st1 w1 fun y H2 Lb δ2 A2 x2 st2 lb w2 => ?_
  cases ea : La δ2 with
  | none => rw [ea] at w2; exact w2.elim
  | some a =>
    cases eb : Lb δ2 with
    | none => rw [ea, eb] at w2; exact w2.elim
    | some b =>
      rw [ea, eb] at w2
      refine hp r (sa S A2) H2 x y a b Q _ st2.thereA (la _ _ _ _ x2 st2 ea) (lb _ _ _ _ .refl st2 eb) w2 fun v H' d s is q => ?_
      have xx := x1.trans x2
      refine k v H' d δ2 A2 (xx.then s) (st2.same s) ⟨is.at_, fun f => ?_⟩ (fun f p' e0 => ?_) q
      · obtain ⟨p, e1, e2, e3⟩ := is.new f
        exact ⟨p, e1, fresh_up xx e2, e3⟩
      · obtain ⟨p, e1, e2, e3⟩ := is.new f
        rw [e0] at e1
        cases e1
        exact st2.goH (.of s) (fun a z => ((st2.same s).pot a z).2) e2 e3.some
end
def D.toS : D → Str
  | .str x => x
  | _ => ""
def D.isS : D → Bool
  | .str _ => true
  | _ => false
section
variable {K : PySem.W.Frag}
theorem AtL.strs {r : Rp} {H : Hp} : ∀ {vs : List V} {ds : List D}, AtL K r H vs ds → ds.all D.isS = true → vs = (ds.map D.toS).map V.str
  | _, _, .nil, _ => rfl
  | _, _, .cons (d := d) h t, f => by
    rw [List.all_cons, Bool.and_eq_true] at f
    rw [List.map_cons, List.map_cons, ← AtL.strs t f.2]
    cases h <;> first | rfl | cases f.1
def joinOk (a : Str) (ys : List Str) : Prop := (ys.map (·.length)).sum + ys.length * a.length ≤ 16777216
def pJoin : P2 := fun a b Q => match a, b with
  | .str z, .lst ds => ds.all D.isS = true ∧ joinOk z (ds.map D.toS) ∧ Q (.str (Txt.join z (ds.map D.toS)))
  | .str z, .tup ds => ds.all D.isS = true ∧ joinOk z (ds.map D.toS) ∧ Q (.str (Txt.join z (ds.map D.toS)))
  | _, _ => False
theorem m1_join : M1D K false (fun x xs H Q => ∃ a p, ∃ ys : List Str, x = .str a ∧ xs = [.ref p] ∧ (SqL K H p (ys.map V.str) ∨ SqT K H p (ys.map V.str)) ∧
    (ys.map (·.length)).sum + ys.length * a.length ≤ 16777216 ∧ Q (.str (Txt.join a ys)) H) pJoin := by
  intro r S H x y a b Q Qd th ha hb w k
  cases a with
  | str z =>
    cases b with
    | lst ds =>
      obtain ⟨f, l, w⟩ := w
      obtain rfl := ha.str
      obtain ⟨p, xs, rfl, e, t⟩ := hb.list
      obtain rfl := t.strs f
      exact ⟨z, p, _, rfl, rfl, .inl (SqL.of e), l, k _ H _ (Same.refl _) (.of (.str _)) w⟩
    | tup ds =>
      obtain ⟨f, l, w⟩ := w
      obtain rfl := ha.str
      obtain ⟨p, xs, rfl, e, t⟩ := hb.tuple
      obtain rfl := t.strs f
      exact ⟨z, p, _, rfl, rfl, .inr e, l, k _ H _ (Same.refl _) (.of (.str _)) w⟩
    | _ => exact w.elim
  | _ => exact w.elim
end
/-! ### f-strings -/
def tdFmt (te : TEd) : TEd := fun δ Q => te δ fun d δ' => match d with
  | .str y => y.length ≤ sizeLine ∧ Q (.str y) δ'
  | .int i => i.natAbs.log2 < 1920 ∧ Q (.str (toString i)) δ'
  | _ => False
section
variable {X : Cx}
theorem de_fmt {fr : Bool} {e : Expr} {te : TEd} {pos : Pos} (he : DE X fr e te) : DE X false (.FormattedValue e (-1) none pos) (tdFmt te) := by
  obtain ⟨t, p, g⟩ := he.ex
  refine ⟨_, pe_fmt p, fun r S σ H δ A Q Qd st w k => g r S σ H δ A _ _ st w fun v H' d δ' A' x st' is _ q => ?_⟩
  have a := is.at_
  cases d with
  | str y =>
    cases a
    exact .inl ⟨y, rfl, q.1, k _ H' _ δ' A' x st' (.of (.str _)) (fun z => nomatch z) q.2⟩
  | int i =>
    cases a
    exact .inr ⟨i, rfl, q.1, k _ H' _ δ' A' x st' (.of (.str _)) (fun z => nomatch z) q.2⟩
  | _ => exact q.elim
inductive DJs (X : Cx) : List Expr → List TEd → Prop where
  | nil : DJs X [] []
  | cons {fr : Bool} {e : Expr} {t : TEd} {es : List Expr} {ts : List TEd} (h : DE X fr e t) (r : DJs X es ts) : DJs X (e :: es) (t :: ts)
def tdJs : List TEd → Str → DSt → (Str → DSt → Prop) → Prop
  | [], acc, δ, Q => Q acc δ
  | t :: ts, acc, δ, Q => t δ fun d δ1 => match d with
    | .str y => (acc ++ y).length ≤ sizeLine ∧ tdJs ts (acc ++ y) δ1 Q
    | _ => False
theorem djs_ex {es : List Expr} {ts : List TEd} (h : DJs X es ts) : ∃ us, PJ X es us ∧ ∀ (acc : Str) (r : Rp) (S : Addr → Prop) (σ : L2.St) (H : Hp) (δ : DSt) (A : Own) (Q : Str → Hp → Prop) (Qd : Str → DSt → Prop), StAt X.K r S H σ δ A → tdJs ts acc δ Qd →
    (∀ o H' δ' A', Ext r S A H A' H' → StAt X.K r S H' σ δ' A' → Qd o δ' → Q o H') → tJs us acc σ H Q := by
  induction h with
  | nil => exact ⟨[], .nil, fun acc r S σ H δ A Q Qd st w k => k acc H δ A .refl st w⟩
  | cons h _ ih =>
    obtain ⟨us, p, g⟩ := ih
    obtain ⟨t, q, g1⟩ := h.ex
    refine ⟨t :: us, .cons q p, fun acc r S σ H δ A Q Qd st w k => ?_⟩
    refine g1 r S σ H δ A _ _ st w fun v H' d δ' A' x st' is _ q => ?_
    have a := is.at_
    cases d with
    | str y =>
      cases a
      exact ⟨y, rfl, q.1, g _ r S σ H' δ' A' Q Qd st' q.2 fun o H2 δ2 A2 x2 st2 w2 => k o H2 δ2 A2 (x.trans x2) st2 w2⟩
    | _ => exact q.elim
theorem de_joined {v1 v2 : Expr} {rest : List Expr} {ts : List TEd} {pos : Pos} (h : DJs X (v1 :: v2 :: rest) ts) : DE X false (.JoinedStr (v1 :: v2 :: rest) pos) (fun δ Q => tdJs ts Str.empty δ fun o δ' => Q (.str o) δ') := by
  obtain ⟨us, p, g⟩ := djs_ex h
  exact ⟨_, pe_joined p, fun r S σ H δ A Q Qd st w k => g _ r S σ H δ A _ _ st w fun o H' δ' A' x st' q => k _ H' _ δ' A' x st' (.of (.str _)) (fun z => nomatch z) q⟩
end
/-! ### calls by keywords -/
structure DKs (X : Cx) (ks : List Keyword) (td : TAd) : Prop where
  ex : ∃ t, PK X ks t ∧ ∀ (r : Rp) (S : Addr → Prop) (σ : L2.St) (H : Hp) (δ : DSt) (A : Own) (Q : List V → Hp → Prop) (Qd : List D → DSt → Prop), StAt X.K r S H σ δ A → td δ Qd →
    (∀ vs H' ds δ' A', Ext r S A H A' H' → StAt X.K r S H' σ δ' A' → AtL X.K r (hid (sa S A') H') vs ds → Qd ds δ' → Q vs H') → t σ H Q
section
variable {X : Cx} {k : Nat} {f : Addr} {fd : FuncData} {ps ks : List Str} {x : Str} {p pos kpos : Pos} {kws : List Keyword} {nm : Option Str}
theorem dk_nil : DKs X [] tdNil := ⟨_, pk_nil, fun r S σ H δ A Q Qd st w k => k [] H [] δ A .refl st .nil w⟩
theorem dk_cons {fr : Bool} {e : Expr} {td : TEd} {tr : TAd} (h : DE X fr e td) (hr : DKs X kws tr) : DKs X (⟨nm, e, kpos⟩ :: kws) (tdCons td tr) := by
  obtain ⟨t, p, g⟩ := h.ex
  obtain ⟨u, p2, g2⟩ := hr.ex
  refine ⟨_, pk_cons p p2, fun r S σ H δ A Q Qd st w k => ?_⟩
  refine g r S σ H δ A _ _ st w fun v H1 d δ1 A1 x1 st1 is1 _ q1 => ?_
  refine g2 r S σ H1 δ1 A1 _ _ st1 q1 fun vs H2 ds δ2 A2 x2 st2 is2 q2 => ?_
  exact k (v :: vs) H2 (d :: ds) δ2 A2 (x1.trans x2) st2 (.cons (is1.at_.same x2.vis) is2) q2
/-- f(k = v, ..): the arguments by the parameters' sequence are g of those that are told -/
theorem pe_callGW {sp : Sp} {t : TA} {g : List Value → List Value} {gV : List V → List V} (F : FnG X.prog X.w X.K X.mg X.base CX0 k f fd ps sp) (room : Room k X.A) (gd : X.A.guards = some []) (hg : Gl X x) (hm : X.mg x = some (.ref f)) (keep : PySem.W.keepIn X.K (.ref f) = true)
    (bi : ∀ (s : Shared) (ws : List Value), X.K.In s.heap → (g ws).length = ps.length → BindsTo s fd ⟨[], ks.zip ws⟩ (ps.zip (g ws))) (rel : ∀ {vs : List V} {ws : List Value}, Vals vs ws → Vals (gV vs) (g ws))
    (ha : PK X kws t) (hall : (backToKw pos (keywordEach kws X.env)).all (·.1.isSome) = true := by rfl) (hks : (backToKw pos (keywordEach kws X.env)).filterMap (·.1) = ks := by rfl)
    (nd : (x == ("__debug__" : Str)) = false := by decide) (sn : ((backTo pos (starEach [] X.env)).any (·.1) || (backToKw pos (keywordEach kws X.env)).any (·.1.isNone)) = false := by rfl) :
    PE X (.Call (.Name x p) [] kws pos) (fun σ H Q => t σ H fun vs H1 => sp (gV vs) H1 Q E0) where
  run := fun pins s σ H Q I h => by
    refine wpAny_Call_Name_kw (ld_glob I hg hm ?_ nd)
    refine PySem.W.callWith_KW0 (h₀ := X.base) I.ok.mod.kin keep hall (thn (ha.run pos pins s σ H _ I h) fun ws s1 ⟨vs, H1, I1, r1, q1⟩ => ⟨I1.kIn, ?_⟩) sn
    rw [hks]
    show wpAny _ _ (PySem.call (.ref f) [] (ks.zip ws)) _ _ _
    have r2 := rel r1
    have lw : (g ws).length = ps.length := r2.length.symm.trans (F.many _ _ _ _ q1)
    refine wpAny_call (codeAny_mono (F.goes X.A X.stack s1 H1 ⟨[], ks.zip ws⟩ (g ws) (gV vs) Q E0 room gd I1.env0 (bi s1 ws I1.kIn lw) r2 q1) fun r s' z => ?_)
    match r, z with
    | .error er, z => exact z.elim
    | .ok (.ret u), z => exact I1.after z
theorem de_callW {n : Nat} {fs : FS} {td : TAd} {g : List Value → List Value} {gV : List V → List V} {gD : List D → List D} (F : FnG X.prog X.w X.K X.mg X.base CX0 k f fd ps (spD X.K n fs)) (room : Room k X.A) (gd : X.A.guards = some []) (hg : Gl X x) (hm : X.mg x = some (.ref f)) (keep : PySem.W.keepIn X.K (.ref f) = true)
    (bi : ∀ (s : Shared) (ws : List Value), X.K.In s.heap → (g ws).length = ps.length → BindsTo s fd ⟨[], ks.zip ws⟩ (ps.zip (g ws))) (rel : ∀ {vs : List V} {ws : List Value}, Vals vs ws → Vals (gV vs) (g ws)) (rel2 : ∀ {r : Rp} {H : Hp} {vs : List V} {ds : List D}, AtL X.K r H vs ds → AtL X.K r H (gV vs) (gD ds))
    (ha : DKs X kws td) (hall : (backToKw pos (keywordEach kws X.env)).all (·.1.isSome) = true := by rfl) (hks : (backToKw pos (keywordEach kws X.env)).filterMap (·.1) = ks := by rfl)
    (nd : (x == ("__debug__" : Str)) = false := by decide) (sn : ((backTo pos (starEach [] X.env)).any (·.1) || (backToKw pos (keywordEach kws X.env)).any (·.1.isNone)) = false := by rfl) :
    DE X fs.fr (.Call (.Name x p) [] kws pos) (fun δ Q => td δ fun ds δ1 => (gD ds).length = n ∧ fs.pre (gD ds) ∧ ∀ d, fs.post (gD ds) d → Q d δ1) := by
  obtain ⟨t, q, gg⟩ := ha.ex
  refine ⟨_, pe_callGW F room gd hg hm keep bi rel q hall hks nd sn, fun r S σ H δ A Q Qd st w k => gg r S σ H δ A _ _ st w fun vs H1 ds δ1 A1 x1 st1 al ⟨ln, pre, po⟩ => ?_⟩
  exact call_gd x1 st1 (rel2 al) ln pre po k
end
/-! ### text * int, stars in displays, constants of the module -/
section
variable {X : Cx}
theorem op_mulS : OpR X (binaryOp .Mult) (fun x y H Q => ∃ z n, x = .str z ∧ y = .int n ∧ MulOk z n ∧ Q (.str (Txt.mul z n)) H) := by
  intro pins s σ H x y v u Q I rx ry h
  obtain ⟨z, n, rfl, rfl, ok, q⟩ := h
  obtain ⟨t, rfl⟩ := rx
  obtain ⟨t', rfl⟩ := ry
  exact PySem.SB.mul ok fun t2 k => ⟨.str _, H, I.tok k, ⟨_, rfl⟩, q⟩
def pMulS : P2 := fun a b Q => match a, b with
  | .str z, .int n => MulOk z n ∧ Q (.str (Txt.mul z n))
  | _, _ => False
theorem r2_mulS {K : PySem.W.Frag} : R2D K false (fun x y H Q => ∃ z n, x = .str z ∧ y = .int n ∧ MulOk z n ∧ Q (.str (Txt.mul z n)) H) pMulS := by
  intro r S H x y a b Q Qd th ha hb w k
  cases a with
  | str z =>
    cases b with
    | int n =>
      obtain rfl := ha.str
      obtain rfl := hb.int
      exact ⟨z, n, rfl, rfl, w.1, k _ H _ (Same.refl _) (.of (.str _)) w.2⟩
    | _ => exact w.elim
  | _ => exact w.elim
def tdStar (td : TEd) (tr : TAd) : TAd := fun δ Q => td δ fun d δ1 => match d with
  | .tup es => tr δ1 fun ds δ2 => Q (es ++ ds) δ2
  | .lst es => tr δ1 fun ds δ2 => Q (es ++ ds) δ2
  | _ => False
theorem da_star {fr : Bool} {e : Expr} {es : List Expr} {p : Pos} {td : TEd} {tr : TAd} (h : DE X fr e td) (hr : DAs X es tr) (hs : starEach (.Starred e p :: es) X.env = (true, eval e X.env) :: starEach es X.env := by rfl) : DAs X (.Starred e p :: es) (tdStar td tr) := by
  obtain ⟨t, q, g⟩ := h.ex
  obtain ⟨u, q2, g2⟩ := hr.ex
  refine ⟨_, StX.pa_star q q2 hs, fun r S σ H δ A Q Qd st w k => ?_⟩
  refine g r S σ H δ A _ _ st w fun v H1 d δ1 A1 x1 st1 is1 _ q1 => ?_
  cases d with
  | tup es =>
    have a := is1.at_
    cases a with
    | tup e t =>
      refine ⟨_, _, rfl, .inl (sqT_sub e), ?_⟩
      exact g2 r S σ H1 δ1 A1 _ _ st1 q1 fun vs H2 ds δ2 A2 x2 st2 is2 q2 => k _ H2 _ δ2 A2 (x1.trans x2) st2 ((t.same x2.vis).append is2) q2
  | lst es =>
    have a := is1.at_
    cases a with
    | lst e t =>
      refine ⟨_, _, rfl, .inr (SqL.of (hid_sub _ _ e)), ?_⟩
      exact g2 r S σ H1 δ1 A1 _ _ st1 q1 fun vs H2 ds δ2 A2 x2 st2 is2 q2 => k _ H2 _ δ2 A2 (x1.trans x2) st2 ((t.same x2.vis).append is2) q2
  | _ => exact q1.elim
theorem de_glob {x : Str} {v : V} {u : Value} {d : D} {pos : Pos} (hg : Gl X x) (hm : X.mg x = some u) (rv : RelV v u) (a : ∀ r H, At X.K r H v d) (hd : (x == ("__debug__" : Str)) = false := by decide) : DE X false (.Name x pos) (tdC d) := de_c (pe_glob hg hm rv hd) a
end
end DL

set_option Elab.async false
set_option linter.all false
set_option maxRecDepth 100000
set_option maxHeartbeats 4000000
namespace DL
open PySem PySem.Spec L2 PSG
section
variable {X : Cx}
theorem op_or {f : Value → Value → Sem Value} {r r' : R2} (h : OpR X f r) (h' : OpR X f r') : OpR X f fun x y H Q => r x y H Q ∨ r' x y H Q :=
  fun pins s σ H x y v u Q I rx ry z => z.elim (fun z => h pins s σ H x y v u Q I rx ry z) fun z => h' pins s σ H x y v u Q I rx ry z
theorem ix_or {r r' : R2} (h : IxR X r) (h' : IxR X r') : IxR X fun x y H Q => r x y H Q ∨ r' x y H Q :=
  fun a b pins s σ H x y v u Q I rx ry z hs => z.elim (fun z => h a b pins s σ H x y v u Q I rx ry z hs) fun z => h' a b pins s σ H x y v u Q I rx ry z hs
theorem sl_or {r r' : V → Option Int → Option Int → Hp → VK → Prop} (h : SlR X r) (h' : SlR X r') : SlR X fun x l u H Q => r x l u H Q ∨ r' x l u H Q :=
  fun pins s σ H x v vl vu lo hi sl Q I rx hs pl pu z => z.elim (fun z => h pins s σ H x v vl vu lo hi sl Q I rx hs pl pu z) fun z => h' pins s σ H x v vl vu lo hi sl Q I rx hs pl pu z
end
section
variable {K : PySem.W.Frag}
theorem R2D.weak {fr : Bool} {rr : R2} {p : P2} (h : R2D K fr rr p) : R2D K false rr p := fun r S H x y a b Q Qd th ha hb w k => h r S H x y a b Q Qd th ha hb w fun v H' d s is q => k v H' d s (.of is.at_) q
/-- one of two, as the data tells -/
theorem R2D.or {r r' : R2} {p p' q : P2} (h : R2D K false r p) (h' : R2D K false r' p') (c : ∀ a b Q, q a b Q → p a b Q ∨ p' a b Q) : R2D K false (fun x y H Q => r x y H Q ∨ r' x y H Q) q := by
  intro rp S H x y a b Q Qd th ha hb w k
  rcases c a b Qd w with w | w
  · exact .inl (h rp S H x y a b Q Qd th ha hb w k)
  · exact .inr (h' rp S H x y a b Q Qd th ha hb w k)
/-! #### + -/
def pAdd : P2 := fun a b Q => match a, b with
  | .int i, .int j => Q (.int (i + j))
  | .str x, .str y => x.length + y.length ≤ sizeLine ∧ Q (.str (x ++ y))
  | .lst xs, .lst ys => xs.length + ys.length ≤ sizeLine ∧ Q (.lst (xs ++ ys))
  | .tup xs, .tup ys => xs.length + ys.length ≤ sizeLine ∧ Q (.tup (xs ++ ys))
  | _, _ => False
theorem r2_Add : R2D K false (fun x y H Q => ((rI0 fun i j => .int (i + j)) x y H Q ∨ (∃ i j, x = .str i ∧ y = .str j ∧ i.length + j.length ≤ sizeLine ∧ Q (.str (i ++ j)) H)) ∨ rCat x y H Q ∨ rCatA K x y H Q) pAdd := by
  refine R2D.or (p := fun a b Q => pII0 (fun i j => .int (i + j)) a b Q ∨ pSS (fun i j => i.length + j.length ≤ sizeLine) (fun i j => .str (i ++ j)) a b Q) (p' := fun a b Q => pCat a b Q ∨ pCatT a b Q)
    (R2D.or r2_add r2_addS fun a b Q w => w) (R2D.or r2_cat.weak r2_catT fun a b Q w => w) fun a b Q w => ?_
  cases a <;> cases b <;> first | exact w.elim | exact .inl (.inl w) | exact .inl (.inr w) | exact .inr (.inl w) | exact .inr (.inr w)
/-! #### * -/
def pMul : P2 := fun a b Q => match a, b with
  | .int i, .int j => CMul i j ∧ Q (.int (i * j))
  | .str z, .int n => MulOk z n ∧ Q (.str (Txt.mul z n))
  | .lst xs, .int k => (-(2 ^ 63) ≤ k ∧ k < 2 ^ 63 ∧ xs.length * k.toNat ≤ sizeLine) ∧ Q (.lst (List.replicate k.toNat xs).flatten)
  | .tup xs, .int k => (xs ≠ [] ∧ 2 ≤ k ∧ k ≤ 1000 ∧ xs.length ≤ 1000) ∧ Q (.tup (List.replicate k.toNat xs).flatten)
  | _, _ => False
theorem AtL.rep {r : Rp} {H : Hp} {vs : List V} {ds : List D} (t : AtL K r H vs ds) : ∀ n : Nat, AtL K r H (List.replicate n vs).flatten (List.replicate n ds).flatten
  | 0 => .nil
  | n + 1 => by
    rw [List.replicate_succ, List.replicate_succ, List.flatten_cons, List.flatten_cons]
    exact t.append (AtL.rep t n)
def pRepL : P2 := fun a b Q => match a, b with
  | .lst xs, .int k => (-(2 ^ 63) ≤ k ∧ k < 2 ^ 63 ∧ xs.length * k.toNat ≤ sizeLine) ∧ Q (.lst (List.replicate k.toNat xs).flatten)
  | _, _ => False
theorem r2_rep : R2D K true rRep pRepL := by
  intro r S H x y a b Q Qd th ha hb w k
  cases a with
  | lst ds =>
    cases b with
    | int n =>
      obtain ⟨p, xs, rfl, e, t⟩ := ha.list
      obtain rfl := hb.int
      exact ⟨p, n, xs, rfl, rfl, e, w.1.1, w.1.2.1, by rw [t.length]; exact w.1.2.2, fun z hz => k _ _ _ (same_new hz) (.newL th hz (t.rep _)) w.2⟩
    | _ => exact w.elim
  | _ => exact w.elim
def pRepT : P2 := fun a b Q => match a, b with
  | .tup xs, .int k => (xs ≠ [] ∧ 2 ≤ k ∧ k ≤ 1000 ∧ xs.length ≤ 1000) ∧ Q (.tup (List.replicate k.toNat xs).flatten)
  | _, _ => False
theorem r2_repT : R2D K false (rRepT K) pRepT := by
  intro r S H x y a b Q Qd th ha hb w k
  cases a with
  | tup ds =>
    cases b with
    | int n =>
      obtain ⟨p, xs, rfl, e, t⟩ := ha.tuple
      obtain rfl := hb.int
      obtain ⟨⟨ne, h1, h2, h3⟩, w⟩ := w
      exact ⟨p, n, xs, rfl, rfl, e, fun z => ne (by rw [z] at t; cases t; rfl), h1, h2, by rw [t.length]; exact h3, fun z hz => k _ _ _ (same_new hz) (.newT th hz (t.rep _)) w⟩
    | _ => exact w.elim
  | _ => exact w.elim
theorem r2_Mul : R2D K false (fun x y H Q => ((rI CMul fun i j => .int (i * j)) x y H Q ∨ (∃ z n, x = .str z ∧ y = .int n ∧ MulOk z n ∧ Q (.str (Txt.mul z n)) H)) ∨ rRep x y H Q ∨ rRepT K x y H Q) pMul := by
  refine R2D.or (p := fun a b Q => pII CMul (fun i j => .int (i * j)) a b Q ∨ pMulS a b Q) (p' := fun a b Q => pRepL a b Q ∨ pRepT a b Q)
    (R2D.or r2_mul r2_mulS fun a b Q w => w) (R2D.or r2_rep.weak r2_repT fun a b Q w => w) fun a b Q w => ?_
  cases a <;> cases b <;> first | exact w.elim | exact .inl (.inl w) | exact .inl (.inr w) | exact .inr (.inl w) | exact .inr (.inr w)
/-! #### ==, != -/
def D.scal (a b : D) : Bool := a.flat && b.flat && L2.scal a.v b.v
def eqD (a b : D) : Bool := if a.scal b then decide (a.v = b.v) else PyData.eqv a.py b.py
/-- it may be asked -/
def eqOk (a b : D) : Prop := a.scal b = true ∨ (a.nice = true ∧ b.nice = true)
def pEq2 (neg : Bool) : P2 := fun a b Q => eqOk a b ∧ Q (.bl (if neg then !eqD a b else eqD a b))
theorem scal_of {a b : D} (h : a.scal b = true) : a.flat = true ∧ b.flat = true ∧ L2.scal a.v b.v = true := by
  unfold D.scal at h
  rw [Bool.and_eq_true, Bool.and_eq_true] at h
  exact ⟨h.1.1, h.1.2, h.2⟩
theorem eq2_or {neg : Bool} {a b : D} {Q : D → Prop} (w : pEq2 neg a b Q) : pEq neg a b Q ∨ pEqD neg a b Q := by
  obtain ⟨ok, w⟩ := w
  unfold eqD at w
  by_cases h : a.scal b = true
  · rw [if_pos h] at w
    obtain ⟨h1, h2, h3⟩ := scal_of h
    exact .inl ⟨h1, h2, h3, w⟩
  · rw [if_neg h] at w
    rcases ok with ok | ok
    · exact absurd ok h
    · exact .inr ⟨ok.1, ok.2, w⟩
theorem r2_Eq : R2D K false (fun x y H Q => rEq x y H Q ∨ rEqD K x y H Q) (pEq2 false) := R2D.or r2_eq r2_eqD fun a b Q w => eq2_or w
theorem r2_Ne : R2D K false (fun x y H Q => rNe x y H Q ∨ rNeD K x y H Q) (pEq2 true) := R2D.or r2_ne r2_neD fun a b Q w => eq2_or w
theorem eqOk_str {x y : Str} : eqOk (.str x) (.str y) ↔ True := ⟨fun _ => trivial, fun _ => .inl rfl⟩
theorem eqOk_int {x y : Int} : eqOk (.int x) (.int y) ↔ True := ⟨fun _ => trivial, fun _ => .inl rfl⟩
theorem eqOk_bl {x y : Bool} : eqOk (.bl x) (.bl y) ↔ True := ⟨fun _ => trivial, fun _ => .inl rfl⟩
theorem eqD_str {x y : Str} : eqD (.str x) (.str y) = decide (x = y) := by
  show decide (V.str x = V.str y) = _
  exact decide_eq_decide.mpr ⟨fun e => V.str.inj e, fun e => by rw [e]⟩
theorem eqD_int {x y : Int} : eqD (.int x) (.int y) = decide (x = y) := by
  show decide (V.int x = V.int y) = _
  exact decide_eq_decide.mpr ⟨fun e => V.int.inj e, fun e => by rw [e]⟩
theorem eqD_bl {x y : Bool} : eqD (.bl x) (.bl y) = decide (x = y) := by
  show decide (V.bl x = V.bl y) = _
  exact decide_eq_decide.mpr ⟨fun e => V.bl.inj e, fun e => by rw [e]⟩
/-! #### in, not in -/
def pIn2 (neg : Bool) : P2 := fun a b Q => match b with
  | .str z => ∃ c, a = .str ⟨#[c]⟩ ∧ Q (.bl (if neg then !decide (c ∈ z.cps.toList) else decide (c ∈ z.cps.toList)))
  | .lst ds => (a.flat = true ∧ ds.all D.flat = true ∧ Q (.bl (if neg then !inV a.v (ds.map D.v) else inV a.v (ds.map D.v)))) ∨
      (a.nice = true ∧ (D.lst ds).nice = true ∧ Q (.bl (if neg then !(D.pys ds).any fun z => PyData.eqv z a.py else (D.pys ds).any fun z => PyData.eqv z a.py)))
  | .tup ds => a.flat = true ∧ ds.all D.flat = true ∧ Q (.bl (if neg then !inV a.v (ds.map D.v) else inV a.v (ds.map D.v)))
  | _ => False
theorem in2_or {neg : Bool} {a b : D} {Q : D → Prop} (w : pIn2 neg a b Q) : pInS neg a b Q ∨ pIn neg a b Q ∨ pInD neg a b Q := by
  cases b with
  | str z =>
    obtain ⟨c, rfl, w⟩ := w
    exact .inl ⟨c, rfl, w⟩
  | lst ds =>
    rcases w with w | w
    · exact .inr (.inl w)
    · exact .inr (.inr w)
  | tup ds => exact .inr (.inl w)
  | _ => exact w.elim
theorem r2_In : R2D K false (fun x y H Q => (∃ (c : Nat) (z : Str), x = .str ⟨#[c]⟩ ∧ y = .str z ∧ Q (.bl (decide (c ∈ z.cps.toList))) H) ∨ rIn K false x y H Q ∨ rInD K x y H Q) (pIn2 false) :=
  R2D.or r2_inS (R2D.or r2_in r2_inD (q := fun a b Q => pIn false a b Q ∨ pInD false a b Q) fun a b Q w => w) fun a b Q w => in2_or w
theorem r2_NotIn : R2D K false (fun x y H Q => (∃ (c : Nat) (z : Str), x = .str ⟨#[c]⟩ ∧ y = .str z ∧ Q (.bl (!decide (c ∈ z.cps.toList))) H) ∨ rIn K true x y H Q ∨ rNotInD K x y H Q) (pIn2 true) :=
  R2D.or r2_ninS (R2D.or r2_in r2_ninD (q := fun a b Q => pIn true a b Q ∨ pInD true a b Q) fun a b Q w => w) fun a b Q w => in2_or w
/-! #### <, <=, >, >= -/
def pOrd (f : Int → Int → Bool) (g : Str → Str → Bool) : P2 := fun a b Q => match a, b with
  | .int i, .int j => Q (.bl (f i j))
  | .str x, .str y => Q (.bl (g x y))
  | _, _ => False
theorem r2_ord {f : Int → Int → Bool} {g : Str → Str → Bool} : R2D K false (fun x y H Q => (rI0 fun i j => .bl (f i j)) x y H Q ∨ ∃ i j, x = .str i ∧ y = .str j ∧ Q (.bl (g i j)) H) (pOrd f g) := by
  refine R2D.or (p := pII0 fun i j => .bl (f i j)) (p' := fun a b Q => pSS (fun _ _ => True) (fun i j => .bl (g i j)) a b Q) (r2_II0 fun _ _ _ _ => .bl _) (fun r S H x y a b Q Qd th ha hb w k => ?_) fun a b Q w => ?_
  · cases a with
    | str i =>
      cases b with
      | str j =>
        obtain rfl := ha.str
        obtain rfl := hb.str
        exact ⟨i, j, rfl, rfl, k _ H _ (Same.refl _) (.of (.bl _)) w.2⟩
      | _ => exact w.elim
    | _ => exact w.elim
  · cases a <;> cases b <;> first | exact w.elim | exact .inl w | exact .inr ⟨trivial, w⟩
/-! #### indexes -/
def pIx2 : P2 := fun a b Q => match a, b with
  | .lst xs, .int i => ∃ d, atI xs i = some d ∧ Q d
  | .tup xs, .int i => ∃ d, atI xs i = some d ∧ Q d
  | .str z, .int i => z.length ≤ sizeLine ∧ ∃ c, atI z.cps.toList i = some c ∧ Q (.str ⟨#[c]⟩)
  | _, _ => False
theorem r2_Ix : R2D K false (fun x y H Q => rIxL K x y H Q ∨ rIxT K x y H Q ∨ rIxS x y H Q) pIx2 := by
  refine R2D.or r2_ixL (R2D.or r2_ixT r2_ixS (q := fun a b Q => pIxT a b Q ∨ pIxS a b Q) fun a b Q w => w) fun a b Q w => ?_
  cases a <;> cases b <;> first | exact w.elim | exact .inl w | exact .inr (.inl w) | exact .inr (.inr w)
/-! #### slices -/
theorem SlD.weak {fr : Bool} {rr : V → Option Int → Option Int → Hp → VK → Prop} {p : P3} (h : SlD K fr rr p) : SlD K false rr p := fun r S H x a lo hi Q Qd th ha w k => h r S H x a lo hi Q Qd th ha w fun v H' d s is q => k v H' d s (.of is.at_) q
theorem SlD.or {r r' : V → Option Int → Option Int → Hp → VK → Prop} {p p' q : P3} (h : SlD K false r p) (h' : SlD K false r' p') (c : ∀ a l u Q, q a l u Q → p a l u Q ∨ p' a l u Q) : SlD K false (fun x l u H Q => r x l u H Q ∨ r' x l u H Q) q := by
  intro rp S H x a lo hi Q Qd th ha w k
  rcases c a lo hi Qd w with w | w
  · exact .inl (h rp S H x a lo hi Q Qd th ha w k)
  · exact .inr (h' rp S H x a lo hi Q Qd th ha w k)
def pSl2 : P3 := fun a lo hi Q => match a with
  | .lst ds => Q (.lst (cutD ds lo hi))
  | .tup ds => Q (.tup (cutD ds lo hi))
  | .str z => z.length ≤ sizeLine ∧ Q (.str (cutS z lo hi))
  | _ => False
theorem sl_2 : SlD K false (fun x l u H Q => rSlL K x l u H Q ∨ rSlA K x l u H Q ∨ rSlS x l u H Q) pSl2 := by
  refine SlD.or sl_l.weak (SlD.or sl_t sl_s (q := fun a l u Q => pSlT a l u Q ∨ pSlS a l u Q) fun a l u Q w => w) fun a l u Q w => ?_
  cases a <;> first | exact w.elim | exact .inl w | exact .inr (.inl w) | exact .inr (.inr w)
end
section
variable {X : Cx} {a b : Expr} {pa pb : TPd} {pos : Pos} {k : Nat}
theorem d_add (ha : DP X a pa) (hb : DP X b pb) : DE X false (.BinOp a .Add b pos) (tdOp pAdd pa pb) := de_op (op_or (op_or op_add op_add_str) (op_or op_cat op_catA)) r2_Add ha hb
theorem d_sub (ha : DP X a pa) (hb : DP X b pb) : DE X false (.BinOp a .Sub b pos) (tdOp (pII0 fun i j => .int (i - j)) pa pb) := de_op op_sub r2_sub ha hb
theorem d_mul (ha : DP X a pa) (hb : DP X b pb) : DE X false (.BinOp a .Mult b pos) (tdOp pMul pa pb) := de_op (op_or (op_or op_mul op_mulS) (op_or op_rep op_repT)) r2_Mul ha hb
theorem d_fdiv (ha : DP X a pa) (hb : DP X b pb) : DE X false (.BinOp a .FloorDiv b pos) (tdOp (pII CDiv fun i j => .int (i / j)) pa pb) := de_op op_fdiv r2_fdiv ha hb
theorem d_mod (ha : DP X a pa) (hb : DP X b pb) : DE X false (.BinOp a .Mod b pos) (tdOp (pII (fun _ j => 0 < j) fun i j => .int (i % j)) pa pb) := de_op op_mod r2_mod ha hb
theorem d_pow (ha : DP X a pa) (hb : DP X b pb) : DE X false (.BinOp a .Pow b pos) (tdOp (pII CPow fun i j => .int (i ^ j.toNat)) pa pb) := de_op op_pow r2_pow ha hb
/-- list + list, for a slot's own -/
theorem d_addL (ha : DP X a pa) (hb : DP X b pb) : DE X true (.BinOp a .Add b pos) (tdOp pCat pa pb) := de_op op_cat r2_cat ha hb
def ltS (x y : Str) : Bool := decide (x.cps.toList < y.cps.toList)
theorem o_eq (hr : Room k X.A) : OpR X (compareOp .Eq) fun x y H Q => rEq x y H Q ∨ rEqD X.K x y H Q := op_or op_eq (op_eqD hr.units)
theorem o_ne (hr : Room k X.A) : OpR X (compareOp .NotEq) fun x y H Q => rNe x y H Q ∨ rNeD X.K x y H Q := op_or op_ne (op_neD hr.units)
theorem o_in (hr : Room k X.A) : OpR X (compareOp .In) fun x y H Q => (∃ (c : Nat) (z : Str), x = .str ⟨#[c]⟩ ∧ y = .str z ∧ Q (.bl (decide (c ∈ z.cps.toList))) H) ∨ rIn X.K false x y H Q ∨ rInD X.K x y H Q := op_or op_in_sign (op_or op_in_seq (op_inD (PSY.hu65 hr)))
theorem o_nin (hr : Room k X.A) : OpR X (compareOp .NotIn) fun x y H Q => (∃ (c : Nat) (z : Str), x = .str ⟨#[c]⟩ ∧ y = .str z ∧ Q (.bl (!decide (c ∈ z.cps.toList))) H) ∨ rIn X.K true x y H Q ∨ rNotInD X.K x y H Q := op_or op_notIn_sign (op_or op_notIn_seq (op_notInD (PSY.hu65 hr)))
theorem o_lt : OpR X (compareOp .Lt) fun x y H Q => (rI0 fun i j => .bl (decide (i < j))) x y H Q ∨ ∃ i j, x = .str i ∧ y = .str j ∧ Q (.bl (ltS i j)) H := op_or op_lt op_lt_str
theorem o_le : OpR X (compareOp .LtE) fun x y H Q => (rI0 fun i j => .bl (decide (i ≤ j))) x y H Q ∨ ∃ i j, x = .str i ∧ y = .str j ∧ Q (.bl (!ltS j i)) H := op_or op_le op_le_str
theorem o_gt : OpR X (compareOp .Gt) fun x y H Q => (rI0 fun i j => .bl (decide (j < i))) x y H Q ∨ ∃ i j, x = .str i ∧ y = .str j ∧ Q (.bl (ltS j i)) H := op_or op_gt op_gt_str
theorem o_ge : OpR X (compareOp .GtE) fun x y H Q => (rI0 fun i j => .bl (decide (j ≤ i))) x y H Q ∨ ∃ i j, x = .str i ∧ y = .str j ∧ Q (.bl (!ltS i j)) H := op_or op_ge op_ge_str
theorem d_ix (ha : DP X a pa) (hb : DP X b pb) (hs : PlainIx b) : DE X false (.Subscript a b pos) (tdOp pIx2 pa pb) := de_ix (ix_or ix_list (ix_or ix_tup ix_str)) r2_Ix ha hb hs
theorem d_sl {lo hi : Option Expr} {tl th : TOd} {p2 : Pos} (ha : DP X a pa) (hl : DO X lo tl) (hh : DO X hi th) : DE X false (.Subscript a (.Slice lo hi none p2) pos) (tdSl pSl2 pa tl th) := de_slice (sl_or sl_list (sl_or sl_tupA sl_str)) sl_2 ha hl hh
/-- a slice for a slot's own -/
theorem d_slL {lo hi : Option Expr} {tl th : TOd} {p2 : Pos} (ha : DP X a pa) (hl : DO X lo tl) (hh : DO X hi th) : DE X true (.Subscript a (.Slice lo hi none p2) pos) (tdSl pSlL pa tl th) := de_slice sl_list sl_l ha hl hh
/-- list, tuple or text walked -/
theorem d_it {tg e : Expr} {fr : Bool} {td : TEd} (h : DE X fr e td) : DI X tg e (fun δ Q => tiL td δ Q ∨ tiT td δ Q ∨ tiS td δ Q) := by
  obtain ⟨t1, p1, g1⟩ := (di_list (tg := tg) h).ex
  obtain ⟨t2, p2, g2⟩ := (di_tup (tg := tg) h).ex
  obtain ⟨t3, p3, g3⟩ := (di_str (tg := tg) h).ex
  exact ⟨_, PSG.pi_or p1 (PSG.pi_or p2 p3), fun r S σ H δ A R Qd st w k => w.elim (fun w => .inl (g1 r S σ H δ A R Qd st w k)) fun w => w.elim (fun w => .inr (.inl (g2 r S σ H δ A R Qd st w k))) fun w => .inr (.inr (g3 r S σ H δ A R Qd st w k))⟩
end
/-! ### calls whose arguments may be lists of slots' own: what is given is flat -/
def LateQ (K : PySem.W.Frag) (r : Rp) (S : Addr → Prop) (σ : L2.St) (v : V) (L : Lt) (A' : Own) (H' : Hp) : Prop :=
  ∀ A2 H2 δ2 d, Ext r S A' H' A2 H2 → StAt K r S H2 σ δ2 A2 → L δ2 = some d → At K r (hid S H2) v d
structure DQ (X : Cx) (e : Expr) (pd : TPd) : Prop where
  ex : ∃ t, PE X e t ∧ ∀ (r : Rp) (S : Addr → Prop) (σ : L2.St) (H : Hp) (δ : DSt) (A : Own) (Q : VK) (Qd : Lt → DSt → Prop), StAt X.K r S H σ δ A → pd δ Qd →
    (∀ v H' L δ' A', Ext r S A H A' H' → StAt X.K r S H' σ δ' A' → LateQ X.K r S σ v L A' H' → Qd L δ' → Q v H') → t σ H Q
theorem DE.dq {X : Cx} {fr : Bool} {e : Expr} {td : TEd} (h : DE X fr e td) : DQ X e (pdE td) := by
  obtain ⟨t, p, g⟩ := h.ex
  refine ⟨t, p, fun r S σ H δ A Q Qd st w k => g r S σ H δ A Q _ st w fun v H' d δ' A' x st' is _ q => k v H' _ δ' A' x st' (fun A2 H2 δ2 d2 x2 _ e => ?_) q⟩
  cases e
  exact (is.at_.same x2.vis).same (hid_mono fun b z => .inl z)
theorem dq_v {X : Cx} (i : Nat) {x : Str} {pos : Pos} (hN : X.N[i]? = some x := by rfl) (hv : Vis X.env.scope x := by first | exact Or.inl rfl | exact Or.inr (Or.inl rfl) | exact Or.inr (Or.inr rfl)) (hd : (x == ("__debug__" : Str)) = false := by decide)
    (hcd : (x == ("__classdict__" : Str)) = false := by decide) : DQ X (.Name x pos) (pdV i) := by
  refine ⟨_, pe_var hN hv hd hcd, fun r S σ H δ A Q Qd st w k => ?_⟩
  obtain ⟨⟨s, e⟩, w⟩ := pdV_of w
  obtain ⟨v, hv⟩ := st.slot e
  refine ⟨v, hv, k v H _ δ A .refl st (fun A2 H2 δ2 d x2 st2 e2 => ?_) w⟩
  obtain ⟨A3, x3, st3, a⟩ := st2.frz hv e2
  exact a.same (hid_mono fun b z => .inl z)
inductive LateQL (K : PySem.W.Frag) (r : Rp) (S : Addr → Prop) (σ : L2.St) (A : Own) (H : Hp) : List V → List Lt → Prop
  | nil : LateQL K r S σ A H [] []
  | cons {v : V} {vs : List V} {L : Lt} {Ls : List Lt} : LateQ K r S σ v L A H → LateQL K r S σ A H vs Ls → LateQL K r S σ A H (v :: vs) (L :: Ls)
theorem LateQL.get {K : PySem.W.Frag} {r : Rp} {S : Addr → Prop} {σ : L2.St} {A A2 : Own} {H H2 : Hp} {δ2 : DSt} (x : Ext r S A H A2 H2) (st : StAt K r S H2 σ δ2 A2) :
    ∀ {vs : List V} {Ls : List Lt} {ds : List D}, LateQL K r S σ A H vs Ls → getL Ls δ2 = some ds → AtL K r (hid S H2) vs ds
  | _, _, ds, .nil, e => by
    cases e
    exact .nil
  | _, _, ds, .cons (L := L) (Ls := Ls) h t, e => by
    unfold getL at e
    cases e1 : L δ2 with
    | none => rw [e1] at e; cases e
    | some d =>
      cases e2 : getL Ls δ2 with
      | none => rw [e1, e2] at e; cases e
      | some es =>
        rw [e1, e2] at e
        cases e
        exact .cons (h _ _ _ _ x st e1) (LateQL.get x st t e2)
structure DQs (X : Cx) (es : List Expr) (td : TPs) : Prop where
  ex : ∃ t, PA X es t ∧ ∀ (r : Rp) (S : Addr → Prop) (σ : L2.St) (H : Hp) (δ : DSt) (A : Own) (Q : List V → Hp → Prop) (Qd : List Lt → DSt → Prop), StAt X.K r S H σ δ A → td δ Qd →
    (∀ vs H' Ls δ' A', Ext r S A H A' H' → StAt X.K r S H' σ δ' A' → LateQL X.K r S σ A' H' vs Ls → Qd Ls δ' → Q vs H') → t σ H Q
section
variable {X : Cx}
theorem dqs_nil : DQs X [] pdNil := ⟨_, pa_nil, fun r S σ H δ A Q Qd st w k => k [] H [] δ A .refl st .nil w⟩
theorem dqs_cons {e : Expr} {es : List Expr} {td : TPd} {tr : TPs} (h : DQ X e td) (hr : DQs X es tr) (hs : starEach (e :: es) X.env = (false, eval e X.env) :: starEach es X.env := by rfl) : DQs X (e :: es) (pdCons td tr) := by
  obtain ⟨t, p, g⟩ := h.ex
  obtain ⟨u, p2, g2⟩ := hr.ex
  refine ⟨_, pa_cons p p2 hs, fun r S σ H δ A Q Qd st w k => ?_⟩
  refine g r S σ H δ A _ _ st w fun v H1 d δ1 A1 x1 st1 is1 q1 => ?_
  refine g2 r S σ H1 δ1 A1 _ _ st1 q1 fun vs H2 ds δ2 A2 x2 st2 is2 q2 => ?_
  refine k (v :: vs) H2 (d :: ds) δ2 A2 (x1.trans x2) st2 (.cons (fun A3 H3 δ3 d3 x3 => is1 A3 H3 δ3 d3 (x2.trans x3)) is2) q2
theorem de_callP {f : Addr} {fd : FuncData} {ps : List Str} {n : Nat} {k : Nat} {fs : FS} {x : Str} {p pos : Pos} {e : Expr} {es : List Expr} {td : TPs}
    (F : FnG X.prog X.w X.K X.mg X.base CX0 k f fd ps (spD X.K n fs)) (room : Room k X.A) (gd : X.A.guards = some []) (hg : Gl X x) (hm : X.mg x = some (.ref f)) (kp : PySem.W.keepIn X.K (.ref f) = true)
    (bi : Binds X.K fd ps []) (fl : fs.Flat) (ha : DQs X (e :: es) td) (nd : (x == ("__debug__" : Str)) = false := by decide)
    (se : starEach (e :: es) X.env = (false, eval e X.env) :: starEach es X.env := by rfl) (sn : (backTo pos (starEach es X.env)).any (·.1) = false := by rfl) :
    DE X false (.Call (.Name x p) (e :: es) [] pos) (fun δ Q => td δ fun Ls δ1 => match getL Ls δ1 with
      | some ds => ds.length = n ∧ fs.pre ds ∧ ∀ d, fs.post ds d → Q d δ1
      | none => False) := by
  obtain ⟨t, q, g⟩ := ha.ex
  refine ⟨_, pe_callG (E := E0) F room gd hg hm kp bi .nil pass0 q nd se sn, fun r S σ H δ A Q Qd st w k => g r S σ H δ A _ _ st w fun vs H1 Ls δ1 A1 x1 st1 al w1 => ?_⟩
  rw [List.append_nil]
  cases ea : getL Ls δ1 with
  | none => rw [ea] at w1; exact w1.elim
  | some ds =>
    rw [ea] at w1
    obtain ⟨ln, pre, po⟩ := w1
    refine ⟨r, S, ds, st1.there, st1.pot, al.get .refl st1 ea, ln, pre, fun v H' d bt pt is pd => ?_⟩
    exact k v H' d δ1 A1 (x1.trans (.but st1 bt pt)) (st1.go bt pt) (.of (flat_at is.at_ (fl.2 _ _ pd))) (fun z => nomatch z) (po d pd)
end
end DL

set_option Elab.async false
set_option linter.all false
set_option maxRecDepth 100000
set_option maxHeartbeats 4000000
namespace DL
open PySem PySem.Spec L2 PSG
/-! ### a, b = x, y -/
theorem Off.refl {σ : L2.St} {δ : DSt} {A : Own} : Off [] σ σ δ δ A A := ⟨rfl, fun _ _ => rfl, fun _ _ => rfl, fun j => by rw [if_neg (List.not_mem_nil)]⟩
section
variable {X : Cx}
/-- a slot takes a value: its own, or not -/
theorem take {o : Bool} {r : Rp} {S : Addr → Prop} {σ : L2.St} {H H' : Hp} {δ' : DSt} {A A' : Own} {v : V} {d : D} {i : Nat} (il : i < σ.length) (x : Ext r S A H A' H') (st' : StAt X.K r S H' σ δ' A') (is : Is o X.K r (sa S A') H H' v d)
    (st2 : o = true → ∀ p, v = .ref p → StAt X.K r (fun b => S b ∨ b = p) H' σ δ' A') : ∃ A2, Ext r S A H A2 H' ∧ StAt X.K r S H' (σ.set i (some v)) (δ'.set i (some (if o then .ow d else .fz d))) A2 := by
  cases o with
  | true => exact own_store il x st' is fun p e => st2 rfl p e
  | false => exact ⟨_, x.trans .drop, st'.set (is.at_.same (hid_mono fun b z => sa_drop z))⟩
def Sl.of (o : Bool) (d : D) : Sl := if o then .ow d else .fz d
def tdPar (i j : Nat) (o1 o2 : Bool) (ta tb : TEd) : TSd := fun N δ => (i < δ.length ∧ j < δ.length) ∧ ta δ fun d1 δ1 => tb δ1 fun d2 δ2 => N.nx ((δ2.set i (some (if o1 then .ow d1 else .fz d1))).set j (some (if o2 then .ow d2 else .fz d2)))
theorem less_or {K : PySem.W.Frag} {r : Rp} {S : Addr → Prop} {H : Hp} {σ : L2.St} {δ : DSt} {A : Own} {p q : Addr} (st : StAt K r (fun b => (S b ∨ b = p) ∨ b = q) H σ δ A) : StAt K r (fun b => (S b ∨ b = q) ∨ b = p) H σ δ A := by
  have e : (fun b => (S b ∨ b = p) ∨ b = q) = fun b => (S b ∨ b = q) ∨ b = p := by
    funext b
    exact propext or_right_comm
  rw [← e]
  exact st
/-- both new: the first one stays hidden while the second one is made -/
theorem ds_par {i j : Nat} {x y : Str} {o1 o2 : Bool} {a b : Expr} {ta tb : TEd} {pos px py pt : Pos} {kt k2 pt2} (hc : X.calm = true) (hN : X.N.Nodup) (hi : X.N[i]? = some x) (hj : X.N[j]? = some y) (hij : i ≠ j)
    (hx : X.env.scope.names.lookup x = some .local) (hy : X.env.scope.names.lookup y = some .local) (ha : DE X o1 a ta) (hb : DE X o2 b tb)
    (hw : swappedStores [.Tuple [.Name x px, .Name y py] kt pt] (.Tuple [a, b] k2 pt2) X.env = pure (some [x, y]))
    (hs : swapsWithSole [.Tuple [.Name x px, .Name y py] kt pt] (.Tuple [a, b] k2 pt2) pos.line X.env = pure false := by rfl)
    (s1 : starEach [a, b] X.env = (false, eval a X.env) :: starEach [b] X.env := by rfl) (s2 : starEach [b] X.env = (false, eval b X.env) :: starEach [] X.env := by rfl) :
    DS X (.Assign [.Tuple [.Name x px, .Name y py] kt pt] (.Tuple [a, b] k2 pt2) pos) (tdPar i j o1 o2 ta tb) := by
  obtain ⟨t, p, g⟩ := ha.ex
  obtain ⟨t2, p2, g2⟩ := hb.ex
  refine ⟨_, ps_par hc hN hi hj hij hx hy (pa_cons p (pa_cons p2 pa_nil s2) s1) hw hs, fun r S σ H δ A E N st ⟨⟨il, jl⟩, w⟩ k => ?_⟩
  refine g r S σ H δ A _ _ st w fun v1 H1 d1 δ1 A1 x1 st1 is1 fr1 w1 => ?_
  have il' : i < σ.length := by rw [← st.len]; exact il
  have jl' : j < σ.length := by rw [← st.len]; exact jl
  cases o1 with
  | false =>
    refine g2 r S σ H1 δ1 A1 _ _ st1 w1 fun v2 H2 d2 δ2 A2 x2 st2 is2 fr2 w2 => ?_
    refine ⟨v1, v2, rfl, ?_⟩
    cases o2 with
    | false =>
      have sa1 := st2.set (i := i) (is1.at_.same (x2.vis.trans (hid_mono fun b z => sa_drop z)))
      have sa2 := sa1.set (i := j) (is2.at_.same (hid_mono fun b z => sa_drop (sa_drop z)))
      exact k.nx _ H2 _ _ ((x1.trans x2).trans (.trans .drop .drop)) sa2 w2
    | true =>
      obtain ⟨p, rfl, hp, tp⟩ := is2.new rfl
      have sh := fr2 rfl p rfl
      -- the first value goes in while the second one is hidden
      have a1 : At X.K r (hid (sa S A1) H1) v1 d1 := is1.at_
      have vis2 : Same (hid (sa S A1) H1) (hid (sa (fun b => S b ∨ b = p) A2) H2) := fun b o e => by
        obtain ⟨n, e0⟩ := hid_of e
        obtain ⟨n2, e2⟩ := hid_of (x2.vis b o e)
        rw [hid_no]
        · exact e2
        · rintro ((z | z) | z)
          · exact n2 (.inl z)
          · rw [z, hp] at e0
            cases e0
          · exact n2 (.inr z)
      have sh1 := sh.set (i := i) (a1.same (vis2.trans (hid_mono fun b z => sa_drop z)))
      have sv1 := st2.set (i := i) (a1.same (x2.vis.trans (hid_mono fun b z => sa_drop z)))
      have is2' : Is true X.K r (sa S (drop A2 i)) H1 H2 (.ref p) d2 := ⟨is2.at_.same (hid_mono fun b z => sa_drop z), fun _ => ⟨p, rfl, hp, tp.mono fun b z => z.elim (fun z => .inl (sa_drop z)) .inr⟩⟩
      obtain ⟨A3, x3, st3⟩ := own_store (i := j) (σ := σ.set i (some v1)) (by rw [List.length_set]; exact jl') (x2.trans .drop) sv1 is2' (fun p' e => by cases e; exact sh1)
      exact k.nx _ H2 _ _ (x1.trans x3) st3 w2
  | true =>
    obtain ⟨p, rfl, hp, tp⟩ := is1.new rfl
    have sh := fr1 rfl p rfl
    have rp : r ≠ some p := fun z => by
      obtain ⟨o, e⟩ := (st.pot p z).2.some
      rw [hp] at e
      cases e
    have pk : p ≠ p → False := fun z => z rfl
    refine g2 r (fun b => S b ∨ b = p) σ H1 δ1 A1 _ _ sh w1 fun v2 H2 d2 δ2 A2 x2 st2 is2 fr2 w2 => ?_
    refine ⟨.ref p, v2, rfl, ?_⟩
    obtain ⟨o1, ho1⟩ := tp.some
    have p2 : H2 p = H1 p := by
      rw [ho1]
      exact x2.hd p o1 (.inr rfl) rp ho1
    have sub : ∀ b, (sa S A1 b ∨ b = p) → sa (fun b => S b ∨ b = p) A1 b := fun b z => by
      rcases z with (z | z) | z
      · exact .inl (.inl z)
      · exact .inr z
      · exact .inl (.inr z)
    have sub' : ∀ b, sa (fun b => S b ∨ b = p) A1 b → (sa S A1 b ∨ b = p) := fun b z => by
      rcases z with (z | z) | z
      · exact .inl (.inl z)
      · exact .inr z
      · exact .inl (.inr z)
    -- the first list, as it is now
    have tp2 : TopAt X.K r (sa (fun b => S b ∨ b = p) A2) H2 p d1 := by
      rcases tp.mono sub' with ⟨xs, ds, e1, e2, t⟩ | ⟨xs, ds, e1, e2, t⟩
      · exact .inl ⟨xs, ds, e1, p2.trans e2, t.same x2.vis⟩
      · exact .inr ⟨xs, ds, e1, p2.trans e2, t.same x2.vis⟩
    have tpS : TopAt X.K r (fun b => sa S A2 b ∨ b = p) H2 p d1 := tp2.mono fun b z => by
      rcases z with (z | z) | z
      · exact .inl (.inl z)
      · exact .inr z
      · exact .inl (.inr z)
    have stS : StAt X.K r S H2 σ δ2 A2 := st2.less (fun b z => .inl z) fun a e => (st.pot a e).1
    have np : ¬ sa S A2 p := fun z => by
      rcases z with z | ⟨m, z⟩
      · obtain ⟨o, e⟩ := st.there p z
        rw [hp] at e
        cases e
      · exact (st2.own m p z).2.1 (.inr rfl)
    have xS : Ext r S A H A2 H2 := by
      refine ⟨fun b o e => ?_, fun b o z n e => ?_, fun m a e => ?_, fun b o e => ?_⟩
      · have nb : b ≠ p := fun z => by rw [z] at e; have z2 := hid_sub _ _ e; rw [hp] at z2; cases z2
        obtain ⟨n, e1⟩ := hid_of (x1.vis b o e)
        have e2 : hid (sa (fun b => S b ∨ b = p) A1) H1 b = some o := by
          rw [hid_no fun z => (sub' b z).elim n nb]
          exact e1
        obtain ⟨n3, e3⟩ := hid_of (x2.vis b o e2)
        rw [hid_no fun z => n3 (z.elim (fun z => .inl (.inl z)) .inr)]
        exact e3
      · exact x2.hd b o (.inl z) n (x1.hd b o z n e)
      · rcases x2.ow m a e with z | z
        · exact x1.ow m a z
        · exact .inr (fresh_up x1 z)
      · obtain ⟨o', e'⟩ := x1.al b o e
        exact x2.al b o' e'
    have at1 : At X.K r (hid (sa S A2) H2) (.ref p) d1 := tpS.at (fun b z => .inl z) np
    have isS : Is true X.K r (sa S A2) H H2 (.ref p) d1 := ⟨at1, fun _ => ⟨p, rfl, hp, tpS⟩⟩
    cases o2 with
    | false =>
      obtain ⟨A3, x3, st3⟩ := own_store (i := i) il' xS stS isS (fun p' e => by cases e; exact st2)
      -- the second value does not know the first list
      have A3e : ∀ b, sa S (drop A3 j) b → sa (fun b => S b ∨ b = p) A2 b := fun b z => by
        rcases sa_drop z with z | ⟨m, z⟩
        · exact .inl (.inl z)
        · -- who owns something now owned it before, or it is the first list
          by_cases hm : m = i
          · subst hm
            have e1 := st3.own m b z
            obtain ⟨⟨d0, e0⟩, _⟩ := e1
            obtain ⟨a0, e3, e4, _⟩ := st3.ow m d0 e0
            rw [z] at e3
            cases e3
            rw [List.getElem?_set_self il'] at e4
            cases e4
            exact .inl (.inr rfl)
          · obtain ⟨⟨d0, e0⟩, _⟩ := st3.own m b z
            rw [List.getElem?_set_ne fun z => hm z.symm] at e0
            obtain ⟨a0, e3, e4, _⟩ := st3.ow m d0 (by rw [List.getElem?_set_ne fun z => hm z.symm]; exact e0)
            rw [z] at e3
            cases e3
            rw [List.getElem?_set_ne fun z => hm z.symm] at e4
            obtain ⟨a1, e5, e6, _⟩ := stS.ow m d0 e0
            rw [e4] at e6
            cases e6
            exact .inr ⟨m, e5⟩
      have st4 := st3.set (i := j) (v := v2) (d := d2) (is2.at_.same (hid_mono A3e))
      exact k.nx _ H2 _ _ (x3.trans .drop) st4 w2
    | true =>
      obtain ⟨q, rfl, hq, tq⟩ := is2.new rfl
      have sh2 := less_or (fr2 rfl q rfl)
      have stq : StAt X.K r (fun b => S b ∨ b = q) H2 σ δ2 A2 := sh2.less (fun b z => .inl z) fun a e => .inl (st.pot a e).1
      have nqp : q ≠ p := fun z => by rw [z, ho1] at hq; cases hq
      obtain ⟨oq, hoq⟩ := tq.some
      have nq : ¬ sa S A2 q := fun z => by
        rcases z with z | ⟨m, z⟩
        · obtain ⟨o, e⟩ := st1.there q z
          rw [hq] at e
          cases e
        · rcases x2.ow m q z with z2 | z2
          · obtain ⟨o, e⟩ := st1.thereA q (.inr ⟨m, z2⟩)
            rw [hq] at e
            cases e
          · -- owned and just made: then it is hidden from what is seen
            have a := is2.at_
            have hsee : hid (sa (fun b => S b ∨ b = p) A2) H2 q = none := if_pos (.inr ⟨m, z⟩)
            rcases tq with ⟨_, _, rfl, _⟩ | ⟨_, _, rfl, _⟩
            · cases a with
              | lst e _ => rw [hsee] at e; cases e
            · cases a with
              | dic e _ => rw [hsee] at e; cases e
      -- the first list goes in: with the second one hidden, and without
      have npq : ¬ sa (fun b => S b ∨ b = q) A2 p := fun z => by
        rcases z with (z | z) | z
        · exact np (.inl z)
        · exact nqp z.symm
        · exact np (.inr z)
      have tpq : TopAt X.K r (fun b => sa (fun b => S b ∨ b = q) A2 b ∨ b = p) H2 p d1 := by
        have vis3 : Same (hid (sa (fun b => S b ∨ b = p) A1) H1) (hid (fun b => sa (fun b => S b ∨ b = q) A2 b ∨ b = p) H2) := fun b o e => by
          obtain ⟨n0, e0⟩ := hid_of e
          obtain ⟨n2, e2⟩ := hid_of (x2.vis b o e)
          rw [hid_no]
          · exact e2
          · rintro (((z | z) | z) | z)
            · exact n2 (.inl (.inl z))
            · rw [z, hq] at e0
              cases e0
            · exact n2 (.inr z)
            · exact n2 (.inl (.inr z))
        rcases tp.mono sub' with ⟨xs, ds, e1, e2, t⟩ | ⟨xs, ds, e1, e2, t⟩
        · exact .inl ⟨xs, ds, e1, p2.trans e2, t.same vis3⟩
        · exact .inr ⟨xs, ds, e1, p2.trans e2, t.same vis3⟩
      have stq1 := stq.put (i := i) (by rw [stq.len]; exact il') sh2 npq tpq
      obtain ⟨A3, x3, st3⟩ := own_store (i := i) il' xS stS isS (fun p' e => by cases e; exact st2)
      have stp := stS.put (i := i) (by rw [stS.len]; exact il') st2 np tpS
      have A3e : A3 = put A2 i p := stp.uniq st3
      subst A3e
      have is2' : Is true X.K r (sa S (put A2 i p)) H1 H2 (.ref q) d2 := by
        have subq : ∀ b, sa S (put A2 i p) b → sa (fun b => S b ∨ b = p) A2 b := fun b z => by
          rcases sa_put z with (z | z) | z
          · exact .inl (.inl z)
          · exact .inr z
          · exact .inl (.inr z)
        exact ⟨is2.at_.same (hid_mono subq), fun _ => ⟨q, rfl, hq, tq.mono fun b z => z.elim (fun z => .inl (subq b z)) .inr⟩⟩
      have nq2 : ¬ sa S (put A2 i p) q := fun z => by
        rcases sa_put z with z | z
        · exact nq z
        · exact nqp z
      have st4 := st3.put (i := j) (by rw [List.length_set, stS.len]; exact jl') stq1 nq2 (is2'.new rfl |>.elim fun q' ⟨e, _, t⟩ => by cases e; exact t)
      refine k.nx _ H2 _ _ ⟨fun b o e => ?_, x3.hd, fun m a e => ?_, x3.al⟩ st4 w2
      · obtain ⟨n, e1⟩ := hid_of (x3.vis b o e)
        rw [hid_no]
        · exact e1
        · intro z
          rcases sa_put z with z | z
          · exact n z
          · have e0 := hid_sub _ _ e
            rw [z] at e0
            rw [fresh_up x1 hq] at e0
            cases e0
      · unfold put at e
        split at e
        · cases e
          exact .inr (fresh_up x1 hq)
        · exact x3.ow m a e
end
/-! ### the ways joined behind a statement -/
def tdCut (t u : TSd) : TSd := fun N δ => ∃ M : DSt → Prop, t { N with nx := M } δ ∧ ∀ δ', M δ' → u N δ'
theorem dss_cut {X : Cx} {s : Stmt} {rest : List Stmt} {t u : TSd} (h1 : DS X s t) (h2 : DSs X rest u) : DSs X (s :: rest) (tdCut t u) := by
  obtain ⟨a, p, g⟩ := h1.ex
  obtain ⟨b, p2, g2⟩ := h2.ex
  refine ⟨_, pss_cons p p2, fun r S σ H δ A E N st ⟨M, w, w2⟩ k => g r S σ H δ A _ _ st w ⟨fun σ' H' δ' A' x st' q => ?_, k.rt, k.bk, k.ct⟩⟩
  exact g2 r S σ' H' δ' A' E N st' (w2 δ' q) (k.up x)
end DL

set_option Elab.async false
set_option linter.all false
set_option maxRecDepth 100000
set_option maxHeartbeats 4000000
namespace DL
open PySem PySem.Spec L2 PSG TL
/-! ### lists made one by one -/
inductive All2 {α β : Type} (P : α → β → Prop) : List α → List β → Prop
  | nil : All2 P [] []
  | cons {a : α} {b : β} {as : List α} {bs : List β} : P a b → All2 P as bs → All2 P (a :: as) (b :: bs)
section
variable {α β : Type} {P : α → β → Prop}
theorem All2.length : ∀ {as : List α} {bs : List β}, All2 P as bs → bs.length = as.length
  | _, _, .nil => rfl
  | _, _, .cons _ t => congrArg Nat.succ (All2.length t)
theorem All2.app : ∀ {as as' : List α} {bs bs' : List β}, All2 P as bs → All2 P as' bs' → All2 P (as ++ as') (bs ++ bs')
  | _, _, _, _, .nil, h => h
  | _, _, _, _, .cons a t, h => .cons a (All2.app t h)
theorem All2.snoc {as : List α} {i : Nat} {bs : List β} {a : α} {b : β} (h : All2 P (as.take i) bs) (e : as[i]? = some a) (p : P a b) : All2 P (as.take (i + 1)) (bs ++ [b]) := by
  rw [List.take_add_one, e]
  exact h.app (.cons p .nil)
theorem All2.map {f : α → β} : ∀ {as : List α} {bs : List β}, All2 (fun a b => b = f a) as bs → bs = as.map f
  | _, _, .nil => rfl
  | _, _, .cons e t => by rw [List.map_cons, ← All2.map t, e]
theorem All2.mem {as : List α} {bs : List β} (h : All2 P as bs) : ∀ b ∈ bs, ∃ a ∈ as, P a b := by
  induction h with
  | nil => intro b m; cases m
  | cons p _ ih =>
    intro b m
    rcases List.mem_cons.mp m with rfl | m
    · exact ⟨_, List.mem_cons_self, p⟩
    · obtain ⟨a, ma, p⟩ := ih b m
      exact ⟨a, List.mem_cons_of_mem _ ma, p⟩
theorem All2.imp {P' : α → β → Prop} : ∀ {as : List α} {bs : List β}, All2 P as bs → (∀ a ∈ as, ∀ b, P a b → P' a b) → All2 P' as bs
  | _, _, .nil, _ => .nil
  | _, _, .cons p t, h => .cons (h _ List.mem_cons_self _ p) (All2.imp t fun a m => h a (List.mem_cons_of_mem _ m))
theorem All2.get {as : List α} {bs : List β} (h : All2 P as bs) : ∀ {i : Nat} {b : β}, bs[i]? = some b → ∃ a, as[i]? = some a ∧ P a b := by
  induction h with
  | nil => intro i b e; simp at e
  | cons p _ ih =>
    intro i b e
    cases i with
    | zero => cases e; exact ⟨_, rfl, p⟩
    | succ i => exact ih e
/-- data of things of one form: all come from things -/
theorem All2.pull {γ : Type} {f : γ → β} {Q : α → γ → Prop} : ∀ {as : List α} {bs : List β}, All2 (fun a b => ∃ c, b = f c ∧ Q a c) as bs → ∃ cs : List γ, bs = cs.map f ∧ All2 Q as cs
  | _, _, .nil => ⟨[], rfl, .nil⟩
  | _, _, .cons ⟨c, e, q⟩ t => by
    obtain ⟨cs, e2, q2⟩ := All2.pull t
    exact ⟨c :: cs, by rw [List.map_cons, ← e2, e], .cons q q2⟩
end
theorem get_map {α β : Type} {f : α → β} {xs : List α} {i : Nat} {d : β} (h : (xs.map f)[i]? = some d) : ∃ x, xs[i]? = some x ∧ d = f x := by
  rw [List.getElem?_map] at h
  cases e : xs[i]? with
  | none => rw [e] at h; cases h
  | some x => rw [e] at h; cases h; exact ⟨x, rfl, rfl⟩
theorem take_map {α β : Type} {f : α → β} {xs : List α} {i : Nat} {x : α} (h : xs[i]? = some x) : (xs.take (i + 1)).map f = (xs.take i).map f ++ [f x] := by
  rw [List.take_add_one, h, List.map_append]
  rfl
theorem take_all {α : Type} {xs : List α} : xs.take xs.length = xs := List.take_length
theorem isS_map {α : Type} {f : α → Str} (xs : List α) : (xs.map fun x => D.str (f x)).all D.isS = true := by
  rw [List.all_map, List.all_eq_true]
  exact fun _ _ => rfl
theorem toS_map {α : Type} {f : α → Str} (xs : List α) : (xs.map fun x => D.str (f x)).map D.toS = xs.map f := by
  rw [List.map_map]
  rfl
theorem sum_le {α : Type} {f : α → Nat} {b : Nat} : ∀ (xs : List α), (∀ x ∈ xs, f x ≤ b) → (xs.map f).sum ≤ xs.length * b
  | [], _ => Nat.zero_le _
  | x :: r, h => by
    have ih := sum_le r fun y m => h y (List.mem_cons_of_mem _ m)
    have hx := h x List.mem_cons_self
    rw [List.map_cons, List.sum_cons, List.length_cons, Nat.add_mul]
    omega
theorem join_ok {α : Type} {f : α → Str} {z : Str} {b n : Nat} {xs : List α} (h : ∀ x ∈ xs, (f x).length ≤ b) (hn : xs.length ≤ n) (hb : n * b + n * z.length ≤ 16777216) : joinOk z (xs.map f) := by
  unfold joinOk
  rw [List.map_map, List.length_map]
  have s := sum_le (f := fun x => (f x).length) xs h
  have m1 := Nat.mul_le_mul_right b hn
  have m2 := Nat.mul_le_mul_right z.length hn
  have e : (xs.map ((fun x => x.length) ∘ f)).sum = (xs.map fun x => (f x).length).sum := rfl
  omega
theorem at0 {α : Type} {a : α} {xs : List α} : atI (a :: xs) (0 : Int) = some a := atI_nat (j := 0) rfl
theorem at1 {α : Type} {a b : α} {xs : List α} : atI (a :: b :: xs) (1 : Int) = some b := atI_nat (j := 1) rfl
theorem at2 {α : Type} {a b c : α} {xs : List α} : atI (a :: b :: c :: xs) (2 : Int) = some c := atI_nat (j := 2) rfl
theorem at3 {α : Type} {a b c d : α} {xs : List α} : atI (a :: b :: c :: d :: xs) (3 : Int) = some d := atI_nat (j := 3) rfl
theorem at4 {α : Type} {a b c d e : α} {xs : List α} : atI (a :: b :: c :: d :: e :: xs) (4 : Int) = some e := atI_nat (j := 4) rfl
theorem sIx_nat {n d k : Nat} (h : k ≤ n) : HT.sIx n d (some (k : Int)) = k := by
  unfold HT.sIx
  simp only []
  split <;> omega
theorem cutD_from {xs : List D} {k : Nat} (h : k ≤ xs.length) : cutD xs (some (k : Int)) none = xs.drop k := by
  unfold cutD
  rw [sIx_nat h]
  show (xs.drop k).take (xs.length - k) = _
  rw [← List.length_drop]
  exact List.take_length
theorem cutD_to {xs : List D} {k : Nat} (h : k ≤ xs.length) : cutD xs none (some (k : Int)) = xs.take k := by
  unfold cutD
  rw [sIx_nat h]
  rfl
/-- xs[1:], of one at least -/
theorem cutD_1 {x : D} {xs : List D} : cutD (x :: xs) (some 1) none = xs := cutD_from (k := 1) (by show 1 ≤ xs.length + 1; omega)
theorem cutD_2 {x y : D} {xs : List D} : cutD (x :: y :: xs) (some 2) none = xs := cutD_from (k := 2) (by show 2 ≤ xs.length + 1 + 1; omega)
/-! ### texts as lists of code points -/
theorem str_eq {x y : Str} (h : tl x = tl y) : x = y := by
  obtain ⟨⟨a⟩⟩ := x
  obtain ⟨⟨b⟩⟩ := y
  cases h
  rfl
theorem tl_app (x y : Str) : tl (x ++ y) = tl x ++ tl y := TL.tl_append x y
theorem tl_len (x : Str) : (tl x).length = x.length := Array.length_toList
theorem tl_joined (z : Str) (xs : List Str) : tl (Txt.join z xs) = joinL (tl z) (xs.map tl) := by rw [TL.join_eq, TL.tl_join]
/-! ### data that may be shown and compared -/
mutual
def D.w : D → Nat
  | .str x => 10 * x.length + 2
  | .int _ => 45
  | .lst xs => 3 + D.ws xs
  | .tup xs => 3 + D.ws xs
  | _ => 5
def D.ws : List D → Nat
  | [] => 0
  | x :: xs => x.w + 2 + D.ws xs
end
mutual
def D.dep : D → Nat
  | .lst xs => D.deps xs + 1
  | .tup xs => D.deps xs + 1
  | _ => 0
def D.deps : List D → Nat
  | [] => 0
  | x :: xs => max x.dep (D.deps xs)
end
mutual
def D.fine : D → Bool
  | .non => true
  | .bl _ => true
  | .int i => decide (i.natAbs < 10 ^ 40)
  | .str x => PyData.strOk x
  | .lst xs => D.fines xs
  | .tup xs => D.fines xs
  | _ => false
def D.fines : List D → Bool
  | [] => true
  | x :: xs => x.fine && D.fines xs
end
mutual
theorem fine_plain : ∀ {d : D}, d.fine = true → d.plain = true
  | .non, _ => by unfold D.plain; rfl
  | .bl _, _ => by unfold D.plain; rfl
  | .int _, _ => by unfold D.plain; rfl
  | .str _, _ => by unfold D.plain; rfl
  | .lst xs, h => by unfold D.fine at h; unfold D.plain; exact fines_plain h
  | .tup xs, h => by unfold D.fine at h; unfold D.plain; exact fines_plain h
  | .dic _, h => by unfold D.fine at h; cases h
  | .pot, h => by unfold D.fine at h; cases h
  | .obj _ _, h => by unfold D.fine at h; cases h
  | .set _, h => by unfold D.fine at h; cases h
theorem fines_plain : ∀ {ds : List D}, D.fines ds = true → D.plains ds = true
  | [], _ => by unfold D.plains; rfl
  | d :: ds, h => by
    unfold D.fines at h
    rw [Bool.and_eq_true] at h
    unfold D.plains
    rw [fine_plain h.1, fines_plain h.2]
    rfl
end
mutual
theorem fine_lay : ∀ {d : D}, d.fine = true → d.py.canLay0 = true ∧ d.py.showable = true ∧ d.py.depth = d.dep
  | .non, _ => by unfold D.py D.dep; exact ⟨rfl, rfl, rfl⟩
  | .bl _, _ => by unfold D.py D.dep; exact ⟨rfl, rfl, rfl⟩
  | .int i, h => by
    unfold D.fine at h
    unfold D.py D.dep
    refine ⟨rfl, ?_, rfl⟩
    have h2 := of_decide_eq_true h
    simp only [PyData.showable]
    have z := PySem.Flt.log2_lt_of (k := 140) (by decide) (Nat.lt_of_lt_of_le h2 (by decide))
    exact decide_eq_true (by omega)
  | .str x, h => by unfold D.fine at h; unfold D.py D.dep; exact ⟨h, rfl, rfl⟩
  | .lst xs, h => by
    unfold D.fine at h
    obtain ⟨h1, h2, h3⟩ := fines_lay h
    unfold D.py D.dep
    simp only [PyData.canLay0, PyData.showable, PyData.depth, h1, h2, h3, and_self]
  | .tup xs, h => by
    unfold D.fine at h
    obtain ⟨h1, h2, h3⟩ := fines_lay h
    unfold D.py D.dep
    simp only [PyData.canLay0, PyData.showable, PyData.depth, h1, h2, h3, and_self]
  | .dic _, h => by unfold D.fine at h; cases h
  | .pot, h => by unfold D.fine at h; cases h
  | .obj _ _, h => by unfold D.fine at h; cases h
  | .set _, h => by unfold D.fine at h; cases h
theorem fines_lay : ∀ {ds : List D}, D.fines ds = true → PyData.canLayAll0 (D.pys ds) = true ∧ PyData.showableAll (D.pys ds) = true ∧ PyData.depthAll (D.pys ds) = D.deps ds
  | [], _ => by unfold D.pys D.deps; exact ⟨rfl, rfl, rfl⟩
  | d :: ds, h => by
    unfold D.fines at h
    rw [Bool.and_eq_true] at h
    obtain ⟨h1, h2, h3⟩ := fine_lay h.1
    obtain ⟨h4, h5, h6⟩ := fines_lay h.2
    unfold D.pys D.deps
    simp only [PyData.canLayAll0, PyData.showableAll, PyData.depthAll, h1, h2, h3, h4, h5, h6, Bool.and_self, and_self]
end
def lens (ts : List Str) : Nat := (ts.map fun t => t.length + 2).sum
theorem len_app (x y : Str) : (x ++ y).length = x.length + y.length := by
  show (x.cps ++ y.cps).size = x.cps.size + y.cps.size
  exact Array.size_append
theorem textFrom_le : ∀ (ts : List Str) (k : Nat) (acc : Str), (textFrom k acc ts).length ≤ acc.length + lens ts
  | [], k, acc => by show acc.length ≤ _; omega
  | t :: r, k, acc => by
    show (textFrom (k + 1) (acc ++ (if k > 0 then ", " else "" : String) ++ t) r).length ≤ _
    have ih := textFrom_le r (k + 1) (acc ++ (if k > 0 then ", " else "" : String) ++ t)
    rw [len_app, len_app] at ih
    have l : (Str.ofString (if k > 0 then ", " else "")).length ≤ 2 := by
      split
      · decide
      · decide
    have e : lens (t :: r) = t.length + 2 + lens r := rfl
    omega
theorem join_le : ∀ (ts : List Str), (Str.join ", " ts).length ≤ lens ts
  | [] => Nat.zero_le _
  | [x] => by show x.length ≤ x.length + 2 + 0; omega
  | x :: y :: r => by
    show (x ++ ", " ++ Str.join ", " (y :: r)).length ≤ _
    have ih := join_le (y :: r)
    rw [len_app, len_app]
    have e : lens (x :: y :: r) = x.length + 2 + lens (y :: r) := rfl
    have e2 : (Str.ofString ", ").length = 2 := by decide
    omega
mutual
theorem shown_le : ∀ {d : D}, d.fine = true → d.py.shown.length ≤ d.w
  | .non, _ => by unfold D.py D.w; decide
  | .bl b, _ => by unfold D.py D.w; cases b <;> decide
  | .int i, h => by
    unfold D.fine at h
    unfold D.py D.w
    have h2 := of_decide_eq_true h
    have z := int_text_length_le10 (a := i) (k := 40) (by decide) h2
    show (Str.ofString (toString i)).length ≤ 45
    rw [ofString_length]
    omega
  | .str x, h => by
    unfold D.fine at h
    unfold D.py D.w
    refine StrLaws.reprText_len x fun c hc => ?_
    have z := Array.all_eq_true_iff_forall_mem.mp h c (Array.mem_toList_iff.mp hc)
    have z := of_decide_eq_true z
    exact Nat.lt_of_lt_of_le z (by decide)
  | .lst xs, h => by
    unfold D.fine at h
    have ih := showns_le h
    unfold D.py D.w
    show (listText (PyData.shownAll (D.pys xs))).length ≤ _
    unfold listText
    have z := textFrom_le (PyData.shownAll (D.pys xs)) 0 "["
    rw [len_app]
    have e1 : (Str.ofString "[").length = 1 := by decide
    have e2 : (Str.ofString "]").length = 1 := by decide
    omega
  | .tup xs, h => by
    unfold D.fine at h
    have ih := showns_le h
    unfold D.py D.w
    show (tupleText (PyData.shownAll (D.pys xs))).length ≤ _
    unfold tupleText
    have z := join_le (PyData.shownAll (D.pys xs))
    rw [len_app, len_app]
    have e1 : (Str.ofString "(").length = 1 := by decide
    have e2 : (Str.ofString (if ((PyData.shownAll (D.pys xs)).length == 1) = true then ",)" else ")")).length ≤ 2 := by
      split
      · decide
      · decide
    omega
  | .dic _, h => by unfold D.fine at h; cases h
  | .pot, h => by unfold D.fine at h; cases h
  | .obj _ _, h => by unfold D.fine at h; cases h
  | .set _, h => by unfold D.fine at h; cases h
theorem showns_le : ∀ {ds : List D}, D.fines ds = true → lens (PyData.shownAll (D.pys ds)) ≤ D.ws ds
  | [], _ => by unfold D.pys D.ws; exact Nat.zero_le _
  | d :: ds, h => by
    unfold D.fines at h
    rw [Bool.and_eq_true] at h
    have h1 := shown_le h.1
    have h2 := showns_le h.2
    unfold D.pys D.ws
    show d.py.shown.length + 2 + lens (PyData.shownAll (D.pys ds)) ≤ _
    omega
end
theorem show_of {d : D} (h : d.fine = true) (hw : d.w ≤ 10000000) (hd : d.dep ≤ 60) : d.Show := by
  obtain ⟨h1, h2, h3⟩ := fine_lay h
  exact ⟨fine_plain h, h2, Nat.le_trans (shown_le h) (Nat.le_trans hw (by decide)), by rw [h3]; exact hd⟩
theorem nice_of' {d : D} (h : d.fine = true) (hd : d.dep ≤ 60) : d.nice = true := by
  obtain ⟨h1, h2, h3⟩ := fine_lay h
  unfold D.nice
  rw [fine_plain h, Bool.true_and]
  show (PyData.canLay0 d.py && decide (PyData.depth d.py ≤ 64)) = true
  rw [h1, h3, Bool.true_and]
  exact decide_eq_true (by omega)
theorem eqOk_of {a b : D} (h : a.fine = true) (hd : a.dep ≤ 60) (h' : b.fine = true) (hd' : b.dep ≤ 60) : eqOk a b := .inr ⟨nice_of' h hd, nice_of' h' hd'⟩
/-! ### == of data without truth values is equality -/
mutual
def D.nb : D → Bool
  | .non => true
  | .int _ => true
  | .str _ => true
  | .lst xs => D.nbs xs
  | .tup xs => D.nbs xs
  | _ => false
def D.nbs : List D → Bool
  | [] => true
  | x :: xs => x.nb && D.nbs xs
end
mutual
theorem eqv_eq : ∀ (a b : D), a.nb = true → b.nb = true → (PyData.eqv a.py b.py = true ↔ a = b)
  | .non, b, _, hb => by cases b <;> simp [D.py, PyData.eqv] <;> simp [D.nb] at hb
  | .int i, b, _, hb => by cases b <;> simp [D.py, PyData.eqv] <;> simp [D.nb] at hb
  | .str x, b, _, hb => by cases b <;> simp [D.py, PyData.eqv] <;> simp [D.nb] at hb
  | .lst xs, b, ha, hb => by
    cases b with
    | lst ys =>
      simp only [D.nb] at ha hb
      simp only [D.py, PyData.eqv, D.lst.injEq]
      exact eqv_eqs xs ys ha hb
    | _ => simp [D.py, PyData.eqv] <;> simp [D.nb] at hb
  | .tup xs, b, ha, hb => by
    cases b with
    | tup ys =>
      simp only [D.nb] at ha hb
      simp only [D.py, PyData.eqv, D.tup.injEq]
      exact eqv_eqs xs ys ha hb
    | _ => simp [D.py, PyData.eqv] <;> simp [D.nb] at hb
  | .bl _, _, ha, _ => by simp [D.nb] at ha
  | .dic _, _, ha, _ => by simp [D.nb] at ha
  | .pot, _, ha, _ => by simp [D.nb] at ha
  | .obj _ _, _, ha, _ => by simp [D.nb] at ha
  | .set _, _, ha, _ => by simp [D.nb] at ha
theorem eqv_eqs : ∀ (xs ys : List D), D.nbs xs = true → D.nbs ys = true → (PyData.eqvAll (D.pys xs) (D.pys ys) = true ↔ xs = ys)
  | [], [], _, _ => by simp [D.pys, PyData.eqvAll]
  | [], y :: ys, _, _ => by simp [D.pys, PyData.eqvAll]
  | x :: xs, [], _, _ => by simp [D.pys, PyData.eqvAll]
  | x :: xs, y :: ys, ha, hb => by
    simp only [D.nbs, Bool.and_eq_true] at ha hb
    simp only [D.pys, PyData.eqvAll, Bool.and_eq_true, List.cons.injEq, eqv_eq x y ha.1 hb.1, eqv_eqs xs ys ha.2 hb.2]
end
theorem eqD_eq {a b : D} (ha : a.nb = true) (hb : b.nb = true) : (eqD a b = true ↔ a = b) := by
  unfold eqD
  split
  · rename_i h
    obtain ⟨f1, f2, _⟩ := scal_of h
    cases a <;> simp only [D.flat, Bool.false_eq_true] at f1 <;> cases b <;> simp only [D.flat, Bool.false_eq_true] at f2 <;> simp [D.v] <;> simp [D.nb] at ha hb
  · exact eqv_eq a b ha hb
theorem strOk_of {x : Str} (h : ∀ c ∈ tl x, c < 1114112) : PyData.strOk x = true := by
  unfold PyData.strOk
  rw [Array.all_eq_true_iff_forall_mem]
  exact fun c hc => decide_eq_true (h c (Array.mem_toList_iff.mpr hc))
/-! ### texts cut and repeated -/
theorem tl_cut (z : Str) (lo hi : Option Int) : tl (cutS z lo hi) = ((tl z).drop (HT.sIx z.length 0 lo)).take (HT.sIx z.length z.length hi - HT.sIx z.length 0 lo) := rfl
theorem cut_mem {z : Str} {lo hi : Option Int} {c : Nat} (h : c ∈ tl (cutS z lo hi)) : c ∈ tl z := by
  rw [tl_cut] at h
  exact List.mem_of_mem_drop (List.mem_of_mem_take h)
theorem tl_cut_to (z : Str) (k : Nat) : tl (cutS z none (some (k : Int))) = (tl z).take k := by
  rw [tl_cut]
  show ((tl z).drop 0).take (HT.sIx z.length z.length (some (k : Int)) - 0) = _
  rw [List.drop_zero, Nat.sub_zero, HT.sIx_nat, ← tl_len]
  by_cases h : k ≤ (tl z).length
  · rw [Nat.min_eq_left h]
  · rw [Nat.min_eq_right (by omega), List.take_length, List.take_of_length_le (by omega)]
theorem tl_mul (z : Str) (n : Int) : tl (Txt.mul z n) = (List.replicate n.toNat (tl z)).flatten := by
  have fold : ∀ (m : Nat) (acc : Array Nat), ((List.replicate m z.cps).foldl (· ++ ·) acc).toList = acc.toList ++ (List.replicate m (tl z)).flatten := fun m => by
    induction m with
    | zero => intro acc; simp
    | succ m ih =>
      intro acc
      rw [List.replicate_succ, List.foldl_cons, ih, Array.toList_append, List.replicate_succ, List.flatten_cons, List.append_assoc]
  unfold Txt.mul
  split
  · rename_i h
    rw [show n.toNat = 0 by omega]
    rfl
  · rename_i h
    split
    · rename_i h2
      rcases Bool.or_eq_true _ _ |>.mp h2 with h2 | h2
      · have e : n = 1 := by simpa using h2
        rw [e]
        simp
      · have e : z.length = 0 := by simpa using h2
        have e2 : tl z = [] := List.length_eq_zero_iff.mp (by rw [tl_len]; exact e)
        rw [e2]
        simp
    · show ((List.replicate n.toNat z.cps).foldl (· ++ ·) #[]).toList = _
      rw [fold]
      rfl
theorem mul_ok {z : Str} {n : Int} (hz : z.length ≤ 1000) (h0 : 0 ≤ n) (h1 : n ≤ 1000) : MulOk z n := by
  have e : (decide (n < -(2 ^ 63 : Int)) || decide (n ≥ 2 ^ 63)) = false := by
    rw [Bool.or_eq_false_iff]
    exact ⟨decide_eq_false (by omega), decide_eq_false (by omega)⟩
  refine ⟨e, fun h _ => ?_, fun h _ => ?_⟩
  · have h2 : (1000 : Int) ≤ (2 ^ 63 - 1) / n := by
      refine Int.le_ediv_of_mul_le (by omega) ?_
      have : (1000 : Int) * n ≤ 1000 * 1000 := by omega
      exact Int.le_trans this (by decide)
    omega
  · have h3 : z.length * n.toNat ≤ 1000 * 1000 := Nat.mul_le_mul hz (by omega)
    refine decide_eq_false ?_
    rw [sizeLine_eq]
    omega
theorem nodup_le {α : Type} [BEq α] [LawfulBEq α] : ∀ (l m : List α), l.Nodup → (∀ x ∈ l, x ∈ m) → l.length ≤ m.length
  | [], _, _, _ => Nat.zero_le _
  | x :: l, m, nd, h => by
    obtain ⟨n1, n2⟩ := List.nodup_cons.mp nd
    have hx := h x List.mem_cons_self
    have ih := nodup_le l (m.erase x) n2 fun y hy => (List.mem_erase_of_ne (fun e => n1 (by rw [← e]; exact hy))).mpr (h y (List.mem_cons_of_mem _ hy))
    rw [List.length_erase_of_mem hx] at ih
    have := List.length_pos_of_mem hx
    rw [List.length_cons]
    omega
/-- one of a list, drawn -/
theorem atI_lt {α : Type} {xs : List α} {k : Int} (h0 : 0 ≤ k) (h : k < xs.length) : ∃ x, atI xs k = some x ∧ x ∈ xs := by
  obtain ⟨n, rfl⟩ : ∃ n : Nat, k = n := ⟨k.toNat, by omega⟩
  have hn : n < xs.length := by omega
  exact ⟨xs[n], atI_nat (j := n) (List.getElem?_eq_getElem hn), List.getElem_mem hn⟩
theorem atI_last {α : Type} {xs : List α} (h : xs ≠ []) : ∃ x, atI xs (-1 : Int) = some x ∧ x ∈ xs := by
  have l := List.length_pos_iff.mpr h
  have e : ixN xs.length (-1) = some (xs.length - 1) := by
    unfold ixN
    rw [if_neg (by decide), if_pos (by omega)]
    congr 1
    omega
  refine ⟨xs[xs.length - 1], ?_, List.getElem_mem _⟩
  unfold atI
  rw [e]
  exact List.getElem?_eq_getElem (by omega)
theorem seqIndex_nat {n m : Nat} (h : n < m) : seqIndex? (n : Int) m = some n := by
  have e1 : (if (n : Int) < 0 then (n : Int) + m else (n : Int)) = n := if_neg (by omega)
  unfold seqIndex?
  rw [e1]
  show (if (decide (0 ≤ (n : Int)) && decide ((n : Int) < m)) = true then some (n : Int).toNat else none) = some n
  rw [if_pos (by simp; omega)]
  rfl
end DL

set_option Elab.async false
set_option linter.all false
set_option maxRecDepth 100000
set_option maxHeartbeats 8000000
namespace K96
open PySem PySem.Spec L2 PSG PSS DL
open PyProof.Rows (IntsAre AllBare)
def topS (i : Nat) : Stmt := PySem.Challenge.pw_pairsigns_k96_plan_texts.main.body.getD i (.Pass ⟨0, 0, 0, 0⟩)
abbrev s__law_pot : Stmt := topS 10
theorem sc__law_pot : FnScope ["_law_script", "_law_k", "_law_cell"] ["_law_script", "_law_k"] (defScope s__law_pot) := ⟨rfl, rfl, rfl, by decide +kernel, rfl, by decide +kernel, by decide +kernel⟩
abbrev s__law_draw : Stmt := topS 11
theorem sc__law_draw : FnScope ["_law_pot_here", "_law_many", "_law_digit"] ["_law_pot_here", "_law_many"] (defScope s__law_draw) := ⟨rfl, rfl, rfl, by decide +kernel, rfl, by decide +kernel, by decide +kernel⟩
structure Blt (K : PySem.W.Frag) (mg : Str → Option Value) : Prop where
  n_len : mg "len" = none
  n_max : mg "max" = none
  n_min : mg "min" = none
  n_abs : mg "abs" = none
  n_int : mg "int" = none
  n_divmod : mg "divmod" = none
  n_range : mg "range" = none
  n_isinstance : mg "isinstance" = none
  n_repr : mg "repr" = none
  n_all : mg "all" = none
  n_any : mg "any" = none
  n_bool : mg "bool" = none
  n_str : mg "str" = none
  n_set : mg "set" = none
  n_sorted : mg "sorted" = none
  n_enumerate : mg "enumerate" = none
  n_zip : mg "zip" = none
  n_reversed : mg "reversed" = none
  n_dict : mg "dict" = none
  n_list : mg "list" = none
  n_tuple : mg "tuple" = none
  c_NO_ENTRIES : ∀ {X : Cx} {pos : Pos}, X.mg = mg → X.K = K → Gl X "NO_ENTRIES" → DE X false (.Name "NO_ENTRIES" pos) (tdC (.str "none"))
  c_DOWN : ∀ {X : Cx} {pos : Pos}, X.mg = mg → X.K = K → Gl X "DOWN" → DE X false (.Name "DOWN" pos) (tdC (.str " down"))
theorem pylong_no {i j : Int} (h0 : 0 < j) (h : j < 2 ^ 200) : CDivP i j := by
  refine ⟨h0, ?_⟩
  have lg : j.natAbs.log2 < 200 := PySem.Flt.log2_lt_of (by decide) (by omega)
  unfold Builtin.divisionGoesByPylong
  have small : ¬ (300 < if (j == 0) = true then 0 else j.natAbs.log2 / 30 + 1) := by split <;> omega
  exact Bool.and_eq_false_iff.mpr (.inl (decide_eq_false small))
section
variable {P : Program} {w : World} {K : PySem.W.Frag} {mg : Str → Option Value} {base : Heap}
def spPot (K : PySem.W.Frag) : Sp := fun vs H Q _ => ∃ (a : Addr) (ns : List Int) (k : Nat), vs = [.ref a, .int k] ∧ SqL K H a (ns.map V.int) ∧ k ≤ 1000 ∧ ∀ p x y, H p = none → (0 : Int) ≤ x → 0 ≤ y → y < 2147483700 → Q (.ref p) (upd H p (.lst [.int x, .int y]))
theorem ok_pot {f : Addr} {fd : FuncData} (F : Fun K "_law_pot" "_law_pot" s__law_pot f fd) (T : Blt K mg) : FnOk P w K mg base CX0 1 f fd ["_law_script", "_law_k"] (spPot K) := by
  have sc := sc__law_pot
  refine F.ok sc (fun vs H Q E h => ?_) (fun cdv A outer s H vs Q E hr h => ?_)
  · obtain ⟨a, ns, k, rfl, _⟩ := h
    rfl
  · obtain ⟨a, ns, k, rfl, hS, hk, q⟩ := h
    refine ⟨_, (pss_cons (ps_set (i := 2) sc.nd rfl (.inl rfl) (pe_op op_add (pe_op op_mul pe_int (pv 1)) pe_int))
      (pss_cons (ps_if (pt_cmpR op_lt (pv 1) (pe_callB call_len_seq (by rfl) T.n_len PySem.boot_len (pa_cons (pv 0) pa_nil)) (nomark _)) (pss_one (ps_set (i := 2) sc.nd rfl (.inl rfl) (pe_ix ix_list (pv 0) (pv 1) (fun _ _ => rfl)))) pss_nil)
      (pss_one (ps_ret (pe_lst (pa_cons (pe_callB (call_max2 rfl) (by rfl) T.n_max (by decide +kernel) (pa_cons pe_int (pa_cons (pe_op op_sub (pe_callB call_abs (by rfl) T.n_abs (by decide +kernel) (pa_cons (pv 2) pa_nil)) (pe_op op_pow pe_int pe_int)) pa_nil))) (pa_cons (pe_op op_add (pe_op op_mod (pe_callTy call_int1 (by rfl) T.n_int (by decide +kernel) (pa_cons (pe_op op_mul (pe_op op_add (pe_op op_mod (pe_callTy call_int1 (by rfl) T.n_int (by decide +kernel) (pa_cons (pe_callB call_abs (by rfl) T.n_abs (by decide +kernel) (pa_cons (pv 2) pa_nil)) pa_nil)) pe_int) pe_int) (pe_op op_pow (pe_op op_add (pv 1) pe_int) pe_int)) pa_nil)) pe_int) pe_int) pa_nil))))))), ?_⟩
    have rest : ∀ c : Int, ∃ x y : Int, True := fun c => ⟨0, 0, trivial⟩
    refine ⟨_, rfl, _, _, rfl, rfl, .inl ⟨by decide, by decide⟩, _, _, rfl, rfl, _, rfl, _, rfl, a, _, rfl, .inl hS, _, _, rfl, rfl, _, rfl, ite2 (fun e => ?_) (fun e => ?_)⟩
    · have lt : k < (ns.map V.int).length := by
        have e1 := of_decide_eq_true e
        omega
      rw [List.length_map] at lt
      have at_ : (ns.map V.int)[k]? = some (.int ns[k]) := by
        rw [List.getElem?_map, List.getElem?_eq_getElem lt]
        rfl
      refine ⟨_, rfl, _, rfl, a, _, _, _, rfl, rfl, hS, atI_nat at_, ?_⟩
      refine ⟨_, rfl, _, rfl, _, _, rfl, rfl, ⟨by decide, by decide, by decide⟩, _, _, rfl, rfl, _, _, rfl, _, rfl, _, rfl, .inl ⟨_, rfl, _, _, rfl, rfl, (by show (0 : Int) < _; decide), _, _, rfl, rfl, _, rfl, _, _, rfl, rfl, _, _, rfl, rfl, ⟨by decide, by decide, by omega⟩, _, _, rfl, rfl, .inl ⟨?_, ?_⟩, .inl ⟨_, rfl, _, _, rfl, rfl, (by show (0 : Int) < _; decide), _, _, rfl, rfl, (by show 2 ≤ sizeLine; decide), fun p hp => ?_⟩⟩⟩
      · omega
      · omega
      exact q p _ _ hp (by split <;> omega) (by omega) (by omega)
    · refine ⟨_, rfl, _, rfl, _, _, rfl, rfl, ⟨by decide, by decide, by decide⟩, _, _, rfl, rfl, _, _, rfl, _, rfl, _, rfl, .inl ⟨_, rfl, _, _, rfl, rfl, (by show (0 : Int) < _; decide), _, _, rfl, rfl, _, rfl, _, _, rfl, rfl, _, _, rfl, rfl, ⟨by decide, by decide, by omega⟩, _, _, rfl, rfl, .inl ⟨?_, ?_⟩, .inl ⟨_, rfl, _, _, rfl, rfl, (by show (0 : Int) < _; decide), _, _, rfl, rfl, (by show 2 ≤ sizeLine; decide), fun p hp => ?_⟩⟩⟩
      · omega
      · omega
      exact q p _ _ hp (by split <;> omega) (by omega) (by omega)
def nx (y : Int) : Int := (y * 48283 + 10007) % 2147483587
theorem nx_lo (y : Int) : 0 ≤ nx y := Int.emod_nonneg _ (by decide)
theorem nx_hi (y : Int) : nx y < 2147483587 := Int.emod_lt_of_pos _ (by decide)
/-- a draw below m -/
def spDraw : Sp := fun vs H Q _ => ∃ (r : Addr) (m : Int), vs = [.ref r, .int m] ∧ Pt H r ∧ 0 < m ∧ m < 2 ^ 200 ∧ ∀ d H', (0 : Int) ≤ d → d < m → Pt H' r → But r H H' → Q (.int d) H'
theorem ok_draw {f : Addr} {fd : FuncData} (F : Fun K "_law_draw" "_law_draw" s__law_draw f fd) (T : Blt K mg) : FnOk P w K mg base CX0 1 f fd ["_law_pot_here", "_law_many"] spDraw := by
  have sc := sc__law_draw
  refine F.ok sc (fun vs H Q E h => ?_) (fun cdv A outer s H vs Q E hr h => ?_)
  · obtain ⟨r, m, rfl, _⟩ := h
    rfl
  · obtain ⟨r, m, rfl, ⟨x, y, hR, hx, hy, hy2⟩, hm, hm2, q⟩ := h
    have hS : SqL K H r [.int x, .int y] := SqL.of hR
    refine ⟨_, (pss_cons (ps_if (pt_cmpR op_gt (pe_ix ix_list (pv 0) pe_int (fun _ _ => rfl)) pe_int (nomark _)) (pss_cons (ps_asg (pe_callB call_divmodW (by rfl) T.n_divmod (by decide +kernel) (pa_cons (pe_ix ix_list (pv 0) pe_int (fun _ _ => rfl)) (pa_cons (pv 1) pa_nil))) (pg_tup (by rfl) (pgs_cons (pg_sub (pv 0) pe_int set_list) (pgs_cons (pg_name (i := 2) sc.nd rfl (.inl rfl)) pgs_nil))))
      (pss_one (ps_ret (pv 2)))) pss_nil)
      (pss_cons (ps_asg (pe_op op_mod (pe_callTy call_int1 (by rfl) T.n_int (by decide +kernel) (pa_cons (pe_op op_add (pe_op op_mul (pe_ix ix_list (pv 0) pe_int (fun _ _ => rfl)) pe_int) pe_int) pa_nil)) pe_int) (pg_sub (pv 0) pe_int set_list))
      (pss_one (ps_ret (pe_op op_mod (pe_op op_fdiv (pe_op op_mod (pe_callTy call_int1 (by rfl) T.n_int (by decide +kernel) (pa_cons (pe_op op_mul (pe_ix ix_list (pv 0) pe_int (fun _ _ => rfl)) (pe_ix ix_list (pv 0) pe_int (fun _ _ => rfl))) pa_nil)) pe_int) pe_int) (pv 1)))))), ?_⟩
    refine ⟨_, rfl, _, _, _, _, rfl, rfl, hS, atI_nat (j := 0) rfl, _, _, rfl, rfl, _, rfl, ite2 (fun e => ?_) (fun e => ?_)⟩
    · refine ⟨_, rfl, _, _, _, _, rfl, rfl, hS, atI_nat (j := 0) rfl, _, rfl, _, _, rfl, pylong_no hm hm2, fun p hp => ?_⟩
      have npr : r ≠ p := ne_of_none hR hp
      refine ⟨p, _, rfl, .inl (.inl upd_same), rfl, _, _, rfl, _, rfl, r, _, _, 0, rfl, rfl, (upd_ne npr).trans hR, rfl, _, _, rfl, rfl, ?_⟩
      refine ⟨_, rfl, q _ _ (Int.emod_nonneg _ (by omega)) (Int.emod_lt_of_pos _ hm) ⟨_, _, upd_same, Int.ediv_nonneg hx (by omega), hy, hy2⟩ ((But.of (same_new hp)).trans But.at)⟩
    · refine ⟨_, rfl, _, _, _, _, rfl, rfl, hS, atI_nat (j := 1) rfl, _, _, rfl, rfl, .inr ⟨by decide, by decide⟩, _, _, rfl, rfl, .inl ⟨_, rfl, _, _, rfl, rfl, (by show (0 : Int) < _; decide), _, rfl, r, _, _, 1, rfl, rfl, hR, rfl, ?_⟩⟩
      have hR1 : (upd H r (.lst [.int x, .int (nx y)])) r = some (.lst [.int x, .int (nx y)]) := upd_same
      have hS1 : SqL K (upd H r (.lst [.int x, .int (nx y)])) r [.int x, .int (nx y)] := SqL.of hR1
      have hz0 := nx_lo y
      have hz1 := nx_hi y
      refine ⟨_, rfl, _, _, _, _, rfl, rfl, hS1, atI_nat (j := 1) rfl, _, rfl, _, _, _, _, rfl, rfl, hS1, atI_nat (j := 1) rfl, _, _, rfl, rfl, .inl ⟨by omega, by omega⟩, .inl ⟨_, rfl, _, _, rfl, rfl, (by show (0 : Int) < _; decide), _, _, rfl, rfl, ⟨by decide, by decide⟩, _, rfl, _, _, rfl, rfl, hm, ?_⟩⟩
      exact q _ _ (Int.emod_nonneg _ (by omega)) (Int.emod_lt_of_pos _ hm) ⟨_, _, hR1, hx, hz0, by omega⟩ But.at
/-- the draws' list, made -/
theorem pt_of {H : Hp} {r : Addr} (h : ∃ x y : Int, H r = some (.lst [.int x, .int y]) ∧ 0 ≤ x ∧ 0 ≤ y ∧ y < 2147483700) : DL.Pt H r := h
def fsDraw : FS where
  pre := fun ds => match ds with
    | [.pot, .int m] => 0 < m ∧ m < 2 ^ 200
    | _ => False
  post := fun ds d => match ds with
    | [_, .int m] => ∃ k : Int, d = .int k ∧ 0 ≤ k ∧ k < m
    | _ => False
theorem fl__law_draw : fsDraw.Flat := ⟨rfl, fun ds d h => by
  match ds, h with
  | [_, .int m], ⟨k, e, _⟩ => rw [e]; rfl⟩
theorem okD_draw {f : Addr} {fd : FuncData} (F : Fun K "_law_draw" "_law_draw" s__law_draw f fd) (T : Blt K mg) : FnG P w K mg base CX0 1 f fd ["_law_pot_here", "_law_many"] (spD K 2 fsDraw) := by
  refine .of (FnOk.imp (ok_draw F T) fun vs H Q E h => ?_)
  obtain ⟨r, S, ds, th, pt, al, ln, pre, q⟩ := h
  match ds, al, pre, q with
  | [.pot, .int m], al, pre, q =>
    cases al with
    | cons h1 t =>
      cases t with
      | cons h2 t =>
        cases t
        cases h1 with
        | pot er =>
          cases h2
          refine ⟨_, m, rfl, (pt _ er).2, pre.1, pre.2, fun d H' d0 d1 p' bt => ?_⟩
          exact q (.int d) H' (.int d) (fun b o n e => bt b o (fun z => n (by rw [z, er])) e) (fun a e => by rw [er] at e; cases e; exact p') (.of (.int d)) ⟨d, rfl, d0, d1⟩
end
end K96

set_option Elab.async false
set_option linter.all false
set_option maxRecDepth 100000
set_option maxHeartbeats 8000000
namespace K96
open PySem PySem.Spec L2 PSG PSS DL TL
open PyProof.Rows (IntsAre AllBare)

abbrev s_entry_text : Stmt := topS 3
theorem sc_entry_text : FnScope ["column", "direction"] ["column", "direction"] (defScope s_entry_text) := ⟨rfl, rfl, rfl, by decide +kernel, rfl, by decide +kernel, by decide +kernel⟩
abbrev s_entries_text : Stmt := topS 4
theorem sc_entries_text : FnScope ["entries", "column", "direction"] ["entries"] (defScope s_entries_text) := ⟨rfl, rfl, rfl, by decide +kernel, rfl, by decide +kernel, by decide +kernel⟩
abbrev s_listed_text : Stmt := topS 6
theorem sc_listed_text : FnScope ["texts"] ["texts"] (defScope s_listed_text) := ⟨rfl, rfl, rfl, by decide +kernel, rfl, by decide +kernel, by decide +kernel⟩
abbrev s_pairs_text : Stmt := topS 8
theorem sc_pairs_text : FnScope ["pairs", "one", "other", "direction"] ["pairs"] (defScope s_pairs_text) := ⟨rfl, rfl, rfl, by decide +kernel, rfl, by decide +kernel, by decide +kernel⟩
abbrev s_plan_text : Stmt := topS 7
theorem sc_plan_text : FnScope ["plan", "word"] ["plan"] (defScope s_plan_text) := ⟨rfl, rfl, rfl, by decide +kernel, rfl, by decide +kernel, by decide +kernel⟩
/-- an entry: its column, whether it is down -/
abbrev En := Str × Bool
def dirS (b : Bool) : Str := if b then "down" else "up"
def enD (e : En) : D := .tup [.str e.1, .str (dirS e.2)]
/-- a pair of a merge -/
abbrev Pr := Str × Str × Bool
def prD (e : Pr) : D := .tup [.str e.1, .str e.2.1, .str (dirS e.2.2)]
def etx (e : En) : List Nat := tl e.1 ++ if e.2 then tl " down" else []
def estx (es : List En) : List Nat := if es = [] then tl "none" else joinL (tl ", ") (es.map etx)
def prtx (e : Pr) : List Nat := tl e.1 ++ tl " = " ++ etx (e.2.1, e.2.2)
def prstx (ps : List Pr) : List Nat := joinL (tl ", ") (ps.map prtx)
theorem dir_down (b : Bool) : (dirS b = ("down" : Str)) ↔ b = true := by cases b <;> decide
def ety (e : En) : Str := if e.2 then e.1 ++ " down" else e.1
theorem ety_tl (e : En) : tl (ety e) = etx e := by
  obtain ⟨c, b⟩ := e
  cases b
  · show tl c = tl c ++ []
    rw [List.append_nil]
  · exact tl_app _ _
theorem ety_len (e : En) : (ety e).length ≤ e.1.length + 5 := by
  obtain ⟨c, b⟩ := e
  cases b
  · show c.length ≤ c.length + 5; omega
  · show (c ++ " down").length ≤ c.length + 5
    rw [len_app]
    have e : (Str.ofString " down").length = 5 := by decide
    omega
theorem dir_ite (e : En) : (if dirS e.2 = ("down" : Str) then e.1 ++ " down" else e.1) = ety e := by
  obtain ⟨c, b⟩ := e
  cases b <;> rfl
theorem entries_end {es : List En} (ne : es ≠ []) : tl (Txt.join ", " (es.map ety)) = estx es := by
  rw [tl_joined, List.map_map]
  unfold estx
  rw [if_neg ne]
  congr 1
  exact List.map_congr_left fun e _ => ety_tl e
section
variable {P : Program} {w : World} {K : PySem.W.Frag} {mg : Str → Option Value} {base : Heap}
def fsEntry : FS where
  pre := fun ds => match ds with
    | [.str c, .str dir] => c.length ≤ 100 ∧ dir.length ≤ 100
    | _ => False
  post := fun ds d => match ds with
    | [.str c, .str dir] => d = .str (if dir = "down" then c ++ " down" else c)
    | _ => False
theorem ok_entry_text {f : Addr} {fd : FuncData} (F : Fun K "entry_text" "entry_text" s_entry_text f fd) (T : Blt K mg) : FnG P w K mg base CX0 1 f fd ["column", "direction"] (spD K 2 fsEntry) := by
  have sc := sc_entry_text
  refine okD (k := 0) F sc fun X hX hr gd => ?_
  obtain ⟨cdv, A, outer, s, H, E, rfl⟩ := hX
  refine ⟨_, (dss_one (ds_ret (de_if (dt_cmp (o_eq hr) r2_Eq (dp_v 1) (DE.dp de_str) (by first | exact nomark _ | rfl)) (d_add (dp_v 0) (DE.dp (T.c_DOWN rfl rfl (by rfl)))) (de_v 0)))), fun ds l pre => ?_⟩
  match ds, l, pre with
  | [.str c, .str dir], _, pre =>
    simp only [fsEntry] at pre ⊢
    simp only [startD, tdSeq, tdNext, tdSet, tdSetO, tdDrop, tdRet, tdRetO, tdRetN, tdIfS, tdAsg, tdPar, tdBreak, tdCont, tdFor, tdV, tdC, tdOp, tdB, tdT, tdNotT, tdAndT, tdOrT, tdAnd, tdOr, tdNot, tdIf, tdNeg, tdTup, tdLst, tdNil, tdCons, tdStar, tdMut, tdM1, tdSl, tdoN, tdoS, tdFmt, tdJs, tdgN, tdgT, tdgNil, tdgCons, pdE, pdV, pdNil, pdCons, getL, peek, frz, onB, onL, onT, owL, unowned, wipeD, tiL, tiT, tiS, tiV, tiR1, tiR2, tiE, tiZ, ttY, tdLc, pAdd, pMul, pII, pII0, pSS, pEq2, pIn2, pOrd, pIx2, pSl2, pSlL, pCat, pIsN, pLen, pI1, pI2, pInt, pStrI, pList, pTuple, pAll, pAny, pRepr, pJoin, pmAppend, pmExtend, pmPopAt, List.map_cons, List.map_nil, List.cons_append, List.nil_append, List.append_nil, List.length_cons, List.length_nil, List.getElem?_cons_zero, List.getElem?_cons_succ, List.set_cons_zero, List.set_cons_succ, List.replicate_succ, List.replicate_zero, Function.comp, Nat.reduceAdd, Nat.reduceSub, Nat.reduceLT, true_and, and_true, if_true, if_false, Bool.false_eq_true, ite_true, ite_false, Bool.not_true, Bool.not_false, reduceCtorEq, eqOk_str, eqOk_int, eqOk_bl, eqD_str, eqD_int, eqD_bl, decide_eq_true_eq, false_implies, true_implies, Option.some.injEq, exists_eq_left, exists_eq_left', exists_eq', or_false, false_or, eq_self, at0, at1, at2, at3, at4, D.str.injEq, D.int.injEq, D.bl.injEq, D.tup.injEq, D.lst.injEq, List.cons.injEq]
    split
    · have e : (Str.ofString " down").length = 5 := by decide
      exact ⟨by rw [sizeLine_eq]; omega, rfl⟩
    · rfl
def fsEntries : FS where
  pre := fun ds => ∃ es : List En, (ds = [.tup (es.map enD)] ∨ ds = [.lst (es.map enD)]) ∧ es.length ≤ 8 ∧ ∀ e ∈ es, e.1.length ≤ 50
  post := fun ds d => ∃ es : List En, (ds = [.tup (es.map enD)] ∨ ds = [.lst (es.map enD)]) ∧ ∃ s, d = .str s ∧ tl s = estx es
theorem entries_go {es : List En} (few : es.length ≤ 8) (small : ∀ e ∈ es, e.1.length ≤ 50) {i : Nat} {e : En} (he : es[i]? = some e) : fsEntry.pre [.str e.1, .str (dirS e.2)] ∧ ∀ d, fsEntry.post [.str e.1, .str (dirS e.2)] d →
    ((es.take i).map fun e => D.str (ety e)).length < sizeLine ∧ ((es.take i).map fun e => D.str (ety e)) ++ [d] = (es.take (i + 1)).map fun e => D.str (ety e) := by
  have sm := small e (List.mem_of_getElem? he)
  refine ⟨⟨by omega, by cases e.2 <;> decide⟩, fun d hd => ⟨by rw [List.length_map, List.length_take, sizeLine_eq]; omega, ?_⟩⟩
  rw [take_map he, show d = _ from hd, dir_ite]
theorem ok_entries_text {f : Addr} {fd : FuncData} {f0 : Addr} {d0 : FuncData} (F : Fun K "entries_text" "entries_text" s_entries_text f fd) (T : Blt K mg)
    (F_entry_text : Fun K "entry_text" "entry_text" s_entry_text f0 d0) (b_entry_text : Binds K d0 ["column", "direction"] []) (g_entry_text : mg "entry_text" = some (.ref f0)) (G_entry_text : FnG P w K mg base CX0 1 f0 d0 ["column", "direction"] (spD K 2 fsEntry)) : FnG P w K mg base CX0 2 f fd ["entries"] (spD K 1 fsEntries) := by
  have sc := sc_entries_text
  refine okD (k := 1) F sc fun X hX hr gd => ?_
  obtain ⟨cdv, A, outer, s, H, E, rfl⟩ := hX
  refine ⟨_, (dss_cons (ds_if (dt_cmp (o_eq hr) r2_Eq (DE.dp (de_callB call_len cd_len (by rfl) T.n_len PySem.boot_len (dps_cons (dp_v 0) dps_nil))) (DE.dp de_int) (by first | exact nomark _ | rfl)) (dss_one (ds_ret (T.c_NO_ENTRIES rfl rfl (by rfl)))) dss_nil)
      (dss_one (ds_ret (de_m1 PySem.F.slot_str_join PySem.F.type_str_join mt_join m1_join (DE.dp de_str) (DE.dp (de_lc (own := [("column", 1), ("direction", 2)]) (by rfl) sc.nd (di_v 0) (blkOk_by (own := [("column", 1), ("direction", 2)]) (N := ["entries", "column", "direction"]) (sc := defScope s_entries_text) (by decide +kernel)) (fun _ _ _ _ _ => (dg_tup (n := 2) (by rfl) (dgs_cons (dg_name (i := 1) sc.nd rfl (.inl rfl)) (dgs_cons (dg_name (i := 2) sc.nd rfl (.inl rfl)) dgs_nil)))) (fun _ _ _ _ _ => (de_call1 G_entry_text (hr.mono (by omega)) gd (by rfl) g_entry_text F_entry_text.kp b_entry_text (da_cons (de_v 1) (da_cons (de_v 2) da_nil)))))))))), fun ds l pre => ?_⟩
  simp only [fsEntries] at pre ⊢
  obtain ⟨es, eq, few, small⟩ := pre
  have jo : joinOk ", " (es.map ety) := join_ok (b := 60) (n := 8) (fun e m => by have := ety_len e; have := small e m; omega) few (by decide)
  rcases eq with rfl | rfl
  · simp only [startD, tdSeq, tdNext, tdSet, tdSetO, tdDrop, tdRet, tdRetO, tdRetN, tdIfS, tdAsg, tdPar, tdBreak, tdCont, tdFor, tdV, tdC, tdOp, tdB, tdT, tdNotT, tdAndT, tdOrT, tdAnd, tdOr, tdNot, tdIf, tdNeg, tdTup, tdLst, tdNil, tdCons, tdStar, tdMut, tdM1, tdSl, tdoN, tdoS, tdFmt, tdJs, tdgN, tdgT, tdgNil, tdgCons, pdE, pdV, pdNil, pdCons, getL, peek, frz, onB, onL, onT, owL, unowned, wipeD, tiL, tiT, tiS, tiV, tiR1, tiR2, tiE, tiZ, ttY, tdLc, pAdd, pMul, pII, pII0, pSS, pEq2, pIn2, pOrd, pIx2, pSl2, pSlL, pCat, pIsN, pLen, pI1, pI2, pInt, pStrI, pList, pTuple, pAll, pAny, pRepr, pJoin, pmAppend, pmExtend, pmPopAt, List.map_cons, List.map_nil, List.cons_append, List.nil_append, List.append_nil, List.length_cons, List.length_nil, List.getElem?_cons_zero, List.getElem?_cons_succ, List.set_cons_zero, List.set_cons_succ, List.replicate_succ, List.replicate_zero, Function.comp, Nat.reduceAdd, Nat.reduceSub, Nat.reduceLT, true_and, and_true, if_true, if_false, Bool.false_eq_true, ite_true, ite_false, Bool.not_true, Bool.not_false, reduceCtorEq, eqOk_str, eqOk_int, eqOk_bl, eqD_str, eqD_int, eqD_bl, decide_eq_true_eq, false_implies, true_implies, Option.some.injEq, exists_eq_left, exists_eq_left', exists_eq', or_false, false_or, eq_self, at0, at1, at2, at3, at4, D.str.injEq, D.int.injEq, D.bl.injEq, D.tup.injEq, D.lst.injEq, List.cons.injEq]
    split
    · rename_i z
      have e0 : es = [] := by
        rw [List.length_map] at z
        exact List.length_eq_zero_iff.mp (by omega)
      exact ⟨es, rfl, by rw [e0]; rfl⟩
    · rename_i z
      have ne : es ≠ [] := fun e => z (by rw [e]; rfl)
      refine ⟨fun i acc => acc = (es.take i).map fun e => D.str (ety e), rfl, fun i d acc e wi => ?_, fun acc wi => ?_⟩
      · obtain ⟨e', he, rfl⟩ := get_map e
        subst wi
        exact ⟨rfl, entries_go few small he⟩
      · subst wi
        rw [List.length_map, take_all, isS_map, toS_map]
        exact ⟨rfl, jo, es, rfl, entries_end ne⟩
  · simp only [startD, tdSeq, tdNext, tdSet, tdSetO, tdDrop, tdRet, tdRetO, tdRetN, tdIfS, tdAsg, tdPar, tdBreak, tdCont, tdFor, tdV, tdC, tdOp, tdB, tdT, tdNotT, tdAndT, tdOrT, tdAnd, tdOr, tdNot, tdIf, tdNeg, tdTup, tdLst, tdNil, tdCons, tdStar, tdMut, tdM1, tdSl, tdoN, tdoS, tdFmt, tdJs, tdgN, tdgT, tdgNil, tdgCons, pdE, pdV, pdNil, pdCons, getL, peek, frz, onB, onL, onT, owL, unowned, wipeD, tiL, tiT, tiS, tiV, tiR1, tiR2, tiE, tiZ, ttY, tdLc, pAdd, pMul, pII, pII0, pSS, pEq2, pIn2, pOrd, pIx2, pSl2, pSlL, pCat, pIsN, pLen, pI1, pI2, pInt, pStrI, pList, pTuple, pAll, pAny, pRepr, pJoin, pmAppend, pmExtend, pmPopAt, List.map_cons, List.map_nil, List.cons_append, List.nil_append, List.append_nil, List.length_cons, List.length_nil, List.getElem?_cons_zero, List.getElem?_cons_succ, List.set_cons_zero, List.set_cons_succ, List.replicate_succ, List.replicate_zero, Function.comp, Nat.reduceAdd, Nat.reduceSub, Nat.reduceLT, true_and, and_true, if_true, if_false, Bool.false_eq_true, ite_true, ite_false, Bool.not_true, Bool.not_false, reduceCtorEq, eqOk_str, eqOk_int, eqOk_bl, eqD_str, eqD_int, eqD_bl, decide_eq_true_eq, false_implies, true_implies, Option.some.injEq, exists_eq_left, exists_eq_left', exists_eq', or_false, false_or, eq_self, at0, at1, at2, at3, at4, D.str.injEq, D.int.injEq, D.bl.injEq, D.tup.injEq, D.lst.injEq, List.cons.injEq]
    split
    · rename_i z
      have e0 : es = [] := by
        rw [List.length_map] at z
        exact List.length_eq_zero_iff.mp (by omega)
      exact ⟨es, rfl, by rw [e0]; rfl⟩
    · rename_i z
      have ne : es ≠ [] := fun e => z (by rw [e]; rfl)
      refine ⟨fun i acc => acc = (es.take i).map fun e => D.str (ety e), rfl, fun i d acc e wi => ?_, fun acc wi => ?_⟩
      · obtain ⟨e', he, rfl⟩ := get_map e
        subst wi
        exact ⟨rfl, entries_go few small he⟩
      · subst wi
        rw [List.length_map, take_all, isS_map, toS_map]
        exact ⟨rfl, jo, es, rfl, entries_end ne⟩
def fsListed : FS where
  pre := fun ds => ∃ ss : List Str, ds = [.lst (ss.map D.str)] ∧ joinOk ", " ss
  post := fun ds d => ∃ ss : List Str, ds = [.lst (ss.map D.str)] ∧ d = .str (Txt.join ", " ss)
theorem ok_listed_text {f : Addr} {fd : FuncData} (F : Fun K "listed_text" "listed_text" s_listed_text f fd) (T : Blt K mg) : FnG P w K mg base CX0 1 f fd ["texts"] (spD K 1 fsListed) := by
  have sc := sc_listed_text
  refine okD (k := 0) F sc fun X hX hr gd => ?_
  obtain ⟨cdv, A, outer, s, H, E, rfl⟩ := hX
  refine ⟨_, (dss_one (ds_ret (de_m1 PySem.F.slot_str_join PySem.F.type_str_join mt_join m1_join (DE.dp de_str) (dp_v 0)))), fun ds l pre => ?_⟩
  simp only [fsListed] at pre ⊢
  obtain ⟨ss, rfl, ok⟩ := pre
  simp only [startD, tdSeq, tdNext, tdSet, tdSetO, tdDrop, tdRet, tdRetO, tdRetN, tdIfS, tdAsg, tdPar, tdBreak, tdCont, tdFor, tdV, tdC, tdOp, tdB, tdT, tdNotT, tdAndT, tdOrT, tdAnd, tdOr, tdNot, tdIf, tdNeg, tdTup, tdLst, tdNil, tdCons, tdStar, tdMut, tdM1, tdSl, tdoN, tdoS, tdFmt, tdJs, tdgN, tdgT, tdgNil, tdgCons, pdE, pdV, pdNil, pdCons, getL, peek, frz, onB, onL, onT, owL, unowned, wipeD, tiL, tiT, tiS, tiV, tiR1, tiR2, tiE, tiZ, ttY, tdLc, pAdd, pMul, pII, pII0, pSS, pEq2, pIn2, pOrd, pIx2, pSl2, pSlL, pCat, pIsN, pLen, pI1, pI2, pInt, pStrI, pList, pTuple, pAll, pAny, pRepr, pJoin, pmAppend, pmExtend, pmPopAt, List.map_cons, List.map_nil, List.cons_append, List.nil_append, List.append_nil, List.length_cons, List.length_nil, List.getElem?_cons_zero, List.getElem?_cons_succ, List.set_cons_zero, List.set_cons_succ, List.replicate_succ, List.replicate_zero, Function.comp, Nat.reduceAdd, Nat.reduceSub, Nat.reduceLT, true_and, and_true, if_true, if_false, Bool.false_eq_true, ite_true, ite_false, Bool.not_true, Bool.not_false, reduceCtorEq, eqOk_str, eqOk_int, eqOk_bl, eqD_str, eqD_int, eqD_bl, decide_eq_true_eq, false_implies, true_implies, Option.some.injEq, exists_eq_left, exists_eq_left', exists_eq', or_false, false_or, eq_self, at0, at1, at2, at3, at4, D.str.injEq, D.int.injEq, D.bl.injEq, D.tup.injEq, D.lst.injEq, List.cons.injEq]
  have e1 : (ss.map D.str).all D.isS = true := isS_map (f := id) ss
  have e2 : (ss.map D.str).map D.toS = ss := (toS_map (f := id) ss).trans (List.map_id ss)
  rw [e1, e2]
  exact ⟨rfl, ok, ss, rfl, rfl⟩
def fsPairs : FS where
  pre := fun ds => ∃ ps : List Pr, ds = [.tup (ps.map prD)] ∧ ps.length ≤ 3 ∧ ∀ e ∈ ps, e.1.length ≤ 20 ∧ e.2.1.length ≤ 20
  post := fun ds d => ∃ ps : List Pr, ds = [.tup (ps.map prD)] ∧ ∃ s, d = .str s ∧ tl s = prstx ps
theorem dir_inj {a b : Bool} (h : dirS a = dirS b) : a = b := by cases a <;> cases b <;> first | rfl | exact absurd h (by decide)
theorem enD_inj {a b : En} (h : enD a = enD b) : a = b := by
  obtain ⟨c, x⟩ := a
  obtain ⟨d, y⟩ := b
  simp only [enD, D.tup.injEq, List.cons.injEq, D.str.injEq, and_true] at h
  rw [h.1, dir_inj h.2]
theorem prD_inj {a b : Pr} (h : prD a = prD b) : a = b := by
  obtain ⟨c, x, u⟩ := a
  obtain ⟨d, y, v⟩ := b
  simp only [prD, D.tup.injEq, List.cons.injEq, D.str.injEq, and_true] at h
  rw [h.1, h.2.1, dir_inj h.2.2]
theorem map_inj {α β : Type} {f : α → β} (hf : ∀ {a b}, f a = f b → a = b) : ∀ {xs ys : List α}, xs.map f = ys.map f → xs = ys
  | [], [], _ => rfl
  | [], _ :: _, h => nomatch h
  | _ :: _, [], h => nomatch h
  | x :: xs, y :: ys, h => by
    rw [List.map_cons, List.map_cons, List.cons.injEq] at h
    rw [hf h.1, map_inj hf h.2]
/-- a pair's text -/
def pty (p : Pr) : Str := ety (Str.empty ++ p.1 ++ " = " ++ p.2.1, p.2.2)
theorem pty_tl (p : Pr) : tl (pty p) = prtx p := by
  unfold pty prtx
  rw [ety_tl]
  unfold etx
  simp only [tl_app]
  simp only [show tl Str.empty = [] from rfl, List.nil_append, List.append_assoc]
theorem pty_len (p : Pr) : (pty p).length ≤ p.1.length + p.2.1.length + 8 := by
  unfold pty
  have z := ety_len (Str.empty ++ p.1 ++ " = " ++ p.2.1, p.2.2)
  simp only [len_app] at z
  have e : (Str.ofString " = ").length = 3 := by decide
  have e2 : Str.empty.length = 0 := rfl
  omega
theorem prs_end (ps : List Pr) : tl (Txt.join ", " (ps.map pty)) = prstx ps := by
  rw [tl_joined, List.map_map]
  unfold prstx
  congr 1
  exact List.map_congr_left fun e _ => pty_tl e
theorem ok_pairs_text {f : Addr} {fd : FuncData} {f0 : Addr} {d0 : FuncData} {f1 : Addr} {d1 : FuncData} (F : Fun K "pairs_text" "pairs_text" s_pairs_text f fd) (T : Blt K mg)
    (F_entries_text : Fun K "entries_text" "entries_text" s_entries_text f0 d0) (b_entries_text : Binds K d0 ["entries"] []) (g_entries_text : mg "entries_text" = some (.ref f0)) (G_entries_text : FnG P w K mg base CX0 2 f0 d0 ["entries"] (spD K 1 fsEntries))
    (F_listed_text : Fun K "listed_text" "listed_text" s_listed_text f1 d1) (b_listed_text : Binds K d1 ["texts"] []) (g_listed_text : mg "listed_text" = some (.ref f1)) (G_listed_text : FnG P w K mg base CX0 1 f1 d1 ["texts"] (spD K 1 fsListed)) : FnG P w K mg base CX0 4 f fd ["pairs"] (spD K 1 fsPairs) := by
  have sc := sc_pairs_text
  refine okD (k := 3) F sc fun X hX hr gd => ?_
  obtain ⟨cdv, A, outer, s, H, E, rfl⟩ := hX
  refine ⟨_, (dss_one (ds_ret (de_call1 G_listed_text (hr.mono (by omega)) gd (by rfl) g_listed_text F_listed_text.kp b_listed_text (da_cons (de_lc (own := [("one", 1), ("other", 2), ("direction", 3)]) (by rfl) sc.nd (di_v 0) (blkOk_by (own := [("one", 1), ("other", 2), ("direction", 3)]) (N := ["pairs", "one", "other", "direction"]) (sc := defScope s_pairs_text) (by decide +kernel)) (fun _ _ _ _ _ => (dg_tup (n := 3) (by rfl) (dgs_cons (dg_name (i := 1) sc.nd rfl (.inl rfl)) (dgs_cons (dg_name (i := 2) sc.nd rfl (.inl rfl)) (dgs_cons (dg_name (i := 3) sc.nd rfl (.inl rfl)) dgs_nil))))) (fun _ _ _ _ _ => (de_call1 G_entries_text (hr.mono (by omega)) gd (by rfl) g_entries_text F_entries_text.kp b_entries_text (da_cons (de_lst (da_cons (de_tup (da_cons (de_joined (.cons (de_fmt (de_v 1)) (.cons de_str (.cons (de_fmt (de_v 2)) .nil)))) (da_cons (de_v 3) da_nil))) da_nil)) da_nil)))) da_nil)))), fun ds l pre => ?_⟩
  simp only [fsPairs] at pre ⊢
  obtain ⟨ps, rfl, few, small⟩ := pre
  simp only [startD, tdSeq, tdNext, tdSet, tdSetO, tdDrop, tdRet, tdRetO, tdRetN, tdIfS, tdAsg, tdPar, tdBreak, tdCont, tdFor, tdV, tdC, tdOp, tdB, tdT, tdNotT, tdAndT, tdOrT, tdAnd, tdOr, tdNot, tdIf, tdNeg, tdTup, tdLst, tdNil, tdCons, tdStar, tdMut, tdM1, tdSl, tdoN, tdoS, tdFmt, tdJs, tdgN, tdgT, tdgNil, tdgCons, pdE, pdV, pdNil, pdCons, getL, peek, frz, onB, onL, onT, owL, unowned, wipeD, tiL, tiT, tiS, tiV, tiR1, tiR2, tiE, tiZ, ttY, tdLc, pAdd, pMul, pII, pII0, pSS, pEq2, pIn2, pOrd, pIx2, pSl2, pSlL, pCat, pIsN, pLen, pI1, pI2, pInt, pStrI, pList, pTuple, pAll, pAny, pRepr, pJoin, pmAppend, pmExtend, pmPopAt, List.map_cons, List.map_nil, List.cons_append, List.nil_append, List.append_nil, List.length_cons, List.length_nil, List.getElem?_cons_zero, List.getElem?_cons_succ, List.set_cons_zero, List.set_cons_succ, List.replicate_succ, List.replicate_zero, Function.comp, Nat.reduceAdd, Nat.reduceSub, Nat.reduceLT, true_and, and_true, if_true, if_false, Bool.false_eq_true, ite_true, ite_false, Bool.not_true, Bool.not_false, reduceCtorEq, eqOk_str, eqOk_int, eqOk_bl, eqD_str, eqD_int, eqD_bl, decide_eq_true_eq, false_implies, true_implies, Option.some.injEq, exists_eq_left, exists_eq_left', exists_eq', or_false, false_or, eq_self, at0, at1, at2, at3, at4, D.str.injEq, D.int.injEq, D.bl.injEq, D.tup.injEq, D.lst.injEq, List.cons.injEq, len_app]
  have e : (Str.ofString " = ").length = 3 := by decide
  have e2 : Str.empty.length = 0 := rfl
  have es := sizeLine_eq
  refine ⟨fun i acc => acc = (ps.take i).map fun p => D.str (pty p), rfl, fun i d acc e wi => ?_, fun acc wi => ?_⟩
  · obtain ⟨p, hp, rfl⟩ := get_map e
    subst wi
    obtain ⟨s1, s2⟩ := small p (List.mem_of_getElem? hp)
    refine ⟨rfl, by omega, by omega, by omega, by omega, by omega, by omega, by omega, ⟨[(Str.empty ++ p.1 ++ " = " ++ p.2.1, p.2.2)], .inr rfl, by show 1 ≤ 8; decide, fun e m => ?_⟩, ?_⟩
    · rw [List.mem_singleton.mp m]
      simp only [len_app]
      omega
    · rintro d ⟨es', eq, s, rfl, hs⟩
      have e3 : [(Str.empty ++ p.1 ++ " = " ++ p.2.1, p.2.2)] = es' := by
        rcases eq with eq | eq
        · cases eq
        · have z : ([(Str.empty ++ p.1 ++ " = " ++ p.2.1, p.2.2)] : List En).map enD = es'.map enD := D.lst.inj (List.cons.inj eq).1
          exact map_inj enD_inj z
      subst e3
      refine ⟨by rw [List.length_map, List.length_take]; omega, ?_⟩
      show _ = (ps.take (i + 1)).map fun p => D.str (pty p)
      rw [take_map hp]
      congr 3
      exact str_eq (hs.trans (ety_tl _).symm)
  · subst wi
    rw [List.length_map, take_all]
    refine ⟨⟨ps.map pty, by rw [List.map_map]; rfl, join_ok (b := 60) (n := 3) (fun p m => by have := pty_len p; have := small p m; omega) few (by decide)⟩, ?_⟩
    rintro d ⟨ss, eq, rfl⟩
    have e3 : ps.map pty = ss := by
      have z : (ps.map pty).map D.str = ss.map D.str := by rw [List.map_map]; exact D.lst.inj (List.cons.inj eq).1
      exact map_inj (fun h => D.str.inj h) z
    subst e3
    exact ⟨ps, rfl, _, rfl, prs_end ps⟩
end
end K96


set_option Elab.async false
set_option linter.all false
set_option maxRecDepth 100000
set_option maxHeartbeats 8000000
namespace K96
open PySem PySem.Spec L2 PSG PSS DL TL
open PyProof.Rows (IntsAre AllBare)

/-- a plan or a shape -/
inductive Pl where
  | heap (t : Str) | index (t i : Str) | sort (es : List En) (p : Pl) | merge (ps : List Pr) (p q : Pl) | seek (p : Pl) (t i : Str) (b : Int)
  | dist (p : Pl) | grps (p : Pl) | fst (p : Pl)
def Pl.D : Pl → DL.D
  | .heap t => .tup [.str "heap", .str t]
  | .index t i => .tup [.str "index", .str t, .str i]
  | .sort es p => .tup [.str "sort", .tup (es.map enD), p.D]
  | .merge ps p q => .tup [.str "merge", .tup (ps.map prD), p.D, q.D]
  | .seek p t i b => .tup [.str "seek", p.D, .str t, .str i, .int b]
  | .dist p => .tup [.str "distinct", p.D]
  | .grps p => .tup [.str "groups", p.D]
  | .fst p => .tup [.str "first", p.D]
def Pl.tx : Pl → List Nat
  | .heap t => tl "heap(" ++ tl t ++ tl ")"
  | .index t i => tl "index(" ++ tl t ++ tl ", " ++ tl i ++ tl ")"
  | .sort es p => tl "sort(" ++ estx es ++ tl "; " ++ p.tx ++ tl ")"
  | .merge ps p q => tl "merge(" ++ prstx ps ++ tl "; " ++ p.tx ++ tl "; " ++ q.tx ++ tl ")"
  | .seek p t i b => tl "seek(" ++ p.tx ++ tl "; " ++ tl t ++ tl ", " ++ tl i ++ tl ", " ++ tl (toString b) ++ tl ")"
  | .dist p => tl "distinct(" ++ p.tx ++ tl ")"
  | .grps p => tl "groups(" ++ p.tx ++ tl ")"
  | .fst p => tl "first(" ++ p.tx ++ tl ")"
def Pl.cnt : Pl → Nat
  | .heap _ => 1
  | .index _ _ => 1
  | .sort _ p => p.cnt + 1
  | .merge _ p q => p.cnt + q.cnt + 1
  | .seek p _ _ _ => p.cnt + 1
  | .dist p => p.cnt + 1
  | .grps p => p.cnt + 1
  | .fst p => p.cnt + 1
/-- a name: one to eight letters -/
structure Word (x : Str) : Prop where
  az : ∀ c ∈ tl x, 97 ≤ c ∧ c ≤ 122
  lo : 1 ≤ x.length
  hi : x.length ≤ 8
/-- a reference -/
def Ref (x : Str) : Prop := ∃ t w, Word t ∧ Word w ∧ tl x = tl t ++ [46] ++ tl w
theorem Ref.len {x : Str} (h : Ref x) : x.length ≤ 17 := by
  obtain ⟨t, w, ht, hw, e⟩ := h
  rw [← tl_len, e]
  simp only [List.length_append, tl_len, List.length_cons, List.length_nil]
  have := ht.hi
  have := hw.hi
  omega
def Pl.Ok : Pl → Prop
  | .heap t => Word t
  | .index t i => Word t ∧ Word i
  | .sort es p => (es.length ≤ 8 ∧ ∀ e ∈ es, Ref e.1) ∧ p.Ok
  | .merge ps p q => (ps ≠ [] ∧ ps.length ≤ 3 ∧ ∀ e ∈ ps, Ref e.1 ∧ Ref e.2.1) ∧ p.Ok ∧ q.Ok
  | .seek p t i b => p.Ok ∧ Word t ∧ Word i ∧ 1 ≤ b ∧ b ≤ 3
  | .dist p => p.Ok
  | .grps p => p.Ok
  | .fst p => p.Ok
theorem Pl.cnt_pos (p : Pl) : 1 ≤ p.cnt := by cases p <;> simp only [Pl.cnt] <;> omega
theorem joinL_len {s : List Nat} {b : Nat} : ∀ {xs : List (List Nat)}, (∀ x ∈ xs, x.length ≤ b) → (joinL s xs).length ≤ xs.length * (b + s.length)
  | [], _ => Nat.zero_le _
  | [x], h => by
    show x.length ≤ 1 * (b + s.length)
    have := h x List.mem_cons_self
    omega
  | x :: y :: r, h => by
    show (x ++ (s ++ joinL s (y :: r))).length ≤ _
    have ih := joinL_len (s := s) (xs := y :: r) fun z m => h z (List.mem_cons_of_mem _ m)
    have hx := h x List.mem_cons_self
    simp only [List.length_append, List.length_cons] at ih ⊢
    rw [show (r.length + 1 + 1) * (b + s.length) = (r.length + 1) * (b + s.length) + (b + s.length) from Nat.succ_mul _ _]
    omega
theorem etx_len (e : En) : (etx e).length ≤ e.1.length + 5 := by
  rw [← ety_tl, tl_len]
  exact ety_len e
theorem estx_len {es : List En} (few : es.length ≤ 8) (h : ∀ e ∈ es, Ref e.1) : (estx es).length ≤ 200 := by
  unfold estx
  split
  · decide
  · have z := joinL_len (s := tl ", ") (b := 22) (xs := es.map etx) fun x m => by
      obtain ⟨e, he, rfl⟩ := List.mem_map.mp m
      have := etx_len e
      have := (h e he).len
      omega
    rw [List.length_map] at z
    have e2 : (tl ", ").length = 2 := by decide
    rw [e2] at z
    have := Nat.mul_le_mul_right 24 few
    omega
theorem prstx_len {ps : List Pr} (few : ps.length ≤ 3) (h : ∀ e ∈ ps, Ref e.1 ∧ Ref e.2.1) : (prstx ps).length ≤ 200 := by
  unfold prstx
  have z := joinL_len (s := tl ", ") (b := 42) (xs := ps.map prtx) fun x m => by
    obtain ⟨e, he, rfl⟩ := List.mem_map.mp m
    rw [← pty_tl, tl_len]
    have := pty_len e
    have := (h e he).1.len
    have := (h e he).2.len
    omega
  rw [List.length_map] at z
  have e2 : (tl ", ").length = 2 := by decide
  rw [e2] at z
  have := Nat.mul_le_mul_right 44 few
  omega
theorem dig_len {b : Int} (h1 : 1 ≤ b) (h2 : b ≤ 3) : (tl (toString b)).length = 1 := by
  have : b = 1 ∨ b = 2 ∨ b = 3 := by omega
  rcases this with rfl | rfl | rfl <;> decide +kernel
/-- the text is not long -/
theorem Pl.tx_len : ∀ {p : Pl}, p.Ok → p.tx.length ≤ 250 * p.cnt
  | .heap t, h => by
    simp only [Pl.tx, Pl.cnt, List.length_append, tl_len]
    have h : Word t := h
    have e1 : (Str.ofString "heap(").length = 5 := by decide
    have e2 : (Str.ofString ")").length = 1 := by decide
    have := h.hi
    omega
  | .index t i, h => by
    simp only [Pl.tx, Pl.cnt, List.length_append, tl_len]
    have h : Word t ∧ Word i := h
    have e1 : (Str.ofString "index(").length = 6 := by decide
    have e2 : (Str.ofString ")").length = 1 := by decide
    have e3 : (Str.ofString ", ").length = 2 := by decide
    have := h.1.hi
    have := h.2.hi
    omega
  | .sort es p, h => by
    have h : (es.length ≤ 8 ∧ ∀ e ∈ es, Ref e.1) ∧ p.Ok := h
    have ih := Pl.tx_len h.2
    have z := estx_len h.1.1 h.1.2
    simp only [Pl.tx, Pl.cnt, List.length_append, tl_len]
    have e1 : (Str.ofString "sort(").length = 5 := by decide
    have e2 : (Str.ofString ")").length = 1 := by decide
    have e3 : (Str.ofString "; ").length = 2 := by decide
    omega
  | .merge ps p q, h => by
    have h : (ps ≠ [] ∧ ps.length ≤ 3 ∧ ∀ e ∈ ps, Ref e.1 ∧ Ref e.2.1) ∧ p.Ok ∧ q.Ok := h
    have ih := Pl.tx_len h.2.1
    have ih2 := Pl.tx_len h.2.2
    have z := prstx_len h.1.2.1 h.1.2.2
    simp only [Pl.tx, Pl.cnt, List.length_append, tl_len]
    have e1 : (Str.ofString "merge(").length = 6 := by decide
    have e2 : (Str.ofString ")").length = 1 := by decide
    have e3 : (Str.ofString "; ").length = 2 := by decide
    omega
  | .seek p t i b, h => by
    have h : p.Ok ∧ Word t ∧ Word i ∧ 1 ≤ b ∧ b ≤ 3 := h
    have ih := Pl.tx_len h.1
    have d := dig_len h.2.2.2.1 h.2.2.2.2
    rw [tl_len] at d
    simp only [Pl.tx, Pl.cnt, List.length_append, tl_len]
    have e1 : (Str.ofString "seek(").length = 5 := by decide
    have e2 : (Str.ofString ")").length = 1 := by decide
    have e3 : (Str.ofString "; ").length = 2 := by decide
    have e4 : (Str.ofString ", ").length = 2 := by decide
    have := h.2.1.hi
    have := h.2.2.1.hi
    omega
  | .dist p, h => by
    have ih := Pl.tx_len (p := p) h
    simp only [Pl.tx, Pl.cnt, List.length_append, tl_len]
    have e1 : (Str.ofString "distinct(").length = 9 := by decide
    have e2 : (Str.ofString ")").length = 1 := by decide
    omega
  | .grps p, h => by
    have ih := Pl.tx_len (p := p) h
    simp only [Pl.tx, Pl.cnt, List.length_append, tl_len]
    have e1 : (Str.ofString "groups(").length = 7 := by decide
    have e2 : (Str.ofString ")").length = 1 := by decide
    omega
  | .fst p, h => by
    have ih := Pl.tx_len (p := p) h
    simp only [Pl.tx, Pl.cnt, List.length_append, tl_len]
    have e1 : (Str.ofString "first(").length = 6 := by decide
    have e2 : (Str.ofString ")").length = 1 := by decide
    omega
theorem pl_inj : ∀ {p q : Pl}, p.D = q.D → p = q := by
  intro p
  induction p with
  | heap t => intro q h; cases q <;> simp only [Pl.D, D.tup.injEq, List.cons.injEq, D.str.injEq, and_true, true_and, reduceCtorEq, and_false, false_and] at h <;> first | (rw [h]; done) | exact absurd h (by decide) | exact absurd h.1 (by decide) | exact h.elim
  | index t i => intro q h; cases q <;> simp only [Pl.D, D.tup.injEq, List.cons.injEq, D.str.injEq, and_true, true_and, reduceCtorEq, and_false, false_and] at h <;> first | (rw [h.1, h.2]; done) | exact absurd h.1 (by decide) | exact h.elim
  | sort es p ih =>
    intro q h
    cases q <;> simp only [Pl.D, D.tup.injEq, List.cons.injEq, D.str.injEq, and_true, true_and, reduceCtorEq, and_false, false_and] at h <;> first | (rw [map_inj enD_inj h.1, ih h.2]; done) | exact absurd h.1 (by decide) | exact h.elim
  | merge ps p q ih1 ih2 =>
    intro q h
    cases q <;> simp only [Pl.D, D.tup.injEq, List.cons.injEq, D.str.injEq, and_true, true_and, reduceCtorEq, and_false, false_and] at h <;> first | (rw [map_inj prD_inj h.1, ih1 h.2.1, ih2 h.2.2]; done) | exact absurd h.1 (by decide) | exact h.elim
  | seek p t i b ih =>
    intro q h
    cases q <;> simp only [Pl.D, D.tup.injEq, List.cons.injEq, D.str.injEq, D.int.injEq, and_true, true_and, reduceCtorEq, and_false, false_and] at h <;> first | (rw [ih h.1, h.2.1, h.2.2.1, h.2.2.2]; done) | exact absurd h.1 (by decide) | exact h.elim
  | dist p ih =>
    intro q h
    cases q <;> simp only [Pl.D, D.tup.injEq, List.cons.injEq, D.str.injEq, and_true, true_and, reduceCtorEq, and_false, false_and] at h <;> first | (rw [ih h]; done) | exact absurd h.1 (by decide) | exact h.elim
  | grps p ih =>
    intro q h
    cases q <;> simp only [Pl.D, D.tup.injEq, List.cons.injEq, D.str.injEq, and_true, true_and, reduceCtorEq, and_false, false_and] at h <;> first | (rw [ih h]; done) | exact absurd h.1 (by decide) | exact h.elim
  | fst p ih =>
    intro q h
    cases q <;> simp only [Pl.D, D.tup.injEq, List.cons.injEq, D.str.injEq, and_true, true_and, reduceCtorEq, and_false, false_and] at h <;> first | (rw [ih h]; done) | exact absurd h.1 (by decide) | exact h.elim
end K96


set_option Elab.async false
set_option linter.all false
set_option maxRecDepth 100000
set_option maxHeartbeats 8000000
namespace K96
open PySem PySem.Spec L2 PSG PSS DL TL
open PyProof.Rows (IntsAre AllBare)

section
variable {P : Program} {w : World} {K : PySem.W.Frag} {mg : Str → Option Value} {base : Heap}
/-- a promise that asks what is never so -/
theorem fn_void {f : Addr} {fd : FuncData} {ps : List Str} {n k : Nat} {fs : FS} (h : ∀ ds, ¬ fs.pre ds) : FnG P w K mg base CX0 k f fd ps (spD K n fs) :=
  ⟨fun vs H Q E ⟨_, _, ds, _, _, _, _, p, _⟩ => (h ds p).elim, fun B up s H ar us vs Q E room gd en bi va ⟨_, _, ds, _, _, _, _, p, _⟩ => (h ds p).elim⟩
def fsPlan (n : Nat) : FS where
  pre := fun ds => ∃ p : Pl, ds = [p.D] ∧ p.Ok ∧ p.cnt ≤ n ∧ n ≤ 30
  post := fun ds d => ∃ p : Pl, ds = [p.D] ∧ ∃ s, d = .str s ∧ tl s = p.tx
theorem fsPlan_fr (n : Nat) : (fsPlan n).fr = false := rfl
theorem plan_post {n : Nat} {p : Pl} {d : D} (h : (fsPlan n).post [p.D] d) : ∃ s, d = .str s ∧ tl s = p.tx := by
  obtain ⟨q, e, z⟩ := h
  rw [pl_inj (List.cons.inj e).1]
  exact z
theorem entries_post {es : List En} {d : D} (h : fsEntries.post [.tup (es.map enD)] d) : ∃ s, d = .str s ∧ tl s = estx es := by
  obtain ⟨es', eq, z⟩ := h
  have e : es = es' := by
    rcases eq with eq | eq
    · exact map_inj enD_inj (D.tup.inj (List.cons.inj eq).1)
    · cases eq
  rw [e]
  exact z
theorem pairs_post {es : List Pr} {d : D} (h : fsPairs.post [.tup (es.map prD)] d) : ∃ s, d = .str s ∧ tl s = prstx es := by
  obtain ⟨es', eq, z⟩ := h
  rw [map_inj prD_inj (D.tup.inj (List.cons.inj eq).1)]
  exact z
/-- the lengths of the texts' own words -/
theorem lits : (Str.ofString "heap(").length = 5 ∧ (Str.ofString ")").length = 1 ∧ (Str.ofString "index(").length = 6 ∧ (Str.ofString ", ").length = 2 ∧ (Str.ofString "sort(").length = 5 ∧ (Str.ofString "; ").length = 2 ∧ (Str.ofString "merge(").length = 6 ∧ (Str.ofString "seek(").length = 5 ∧
  (Str.ofString "(").length = 1 ∧ (Str.ofString "distinct").length = 8 ∧ (Str.ofString "groups").length = 6 ∧ (Str.ofString "first").length = 5 ∧ Str.empty.length = 0 := by decide
theorem ok_plan_text {f : Addr} {fd : FuncData} {f0 : Addr} {d0 : FuncData} {f1 : Addr} {d1 : FuncData} (F : Fun K "plan_text" "plan_text" s_plan_text f fd) (T : Blt K mg) (b_plan_text : Binds K fd ["plan"] []) (g_plan_text : mg "plan_text" = some (.ref f))
    (F_entries_text : Fun K "entries_text" "entries_text" s_entries_text f0 d0) (b_entries_text : Binds K d0 ["entries"] []) (g_entries_text : mg "entries_text" = some (.ref f0)) (G_entries_text : FnG P w K mg base CX0 2 f0 d0 ["entries"] (spD K 1 fsEntries))
    (F_pairs_text : Fun K "pairs_text" "pairs_text" s_pairs_text f1 d1) (b_pairs_text : Binds K d1 ["pairs"] []) (g_pairs_text : mg "pairs_text" = some (.ref f1)) (G_pairs_text : FnG P w K mg base CX0 4 f1 d1 ["pairs"] (spD K 1 fsPairs)) :
    ∀ n : Nat, FnG P w K mg base CX0 (n + 5) f fd ["plan"] (spD K 1 (fsPlan n)) := by
  have sc := sc_plan_text
  have F_plan_text := F
  intro n
  induction n with
  | zero => exact fn_void fun ds ⟨p, _, _, h, _⟩ => by have := p.cnt_pos; omega
  | succ n ih =>
    have G_plan_text := ih
    refine okD (k := n + 5) F sc fun X hX hr gd => ?_
    obtain ⟨cdv, A, outer, s, H, E, rfl⟩ := hX
    refine ⟨_, (dss_cons (ds_set (i := 1) sc.nd rfl (.inl rfl) (d_ix (dp_v 0) (DE.dp de_int) (fun _ _ => rfl)))
      (dss_cons (ds_if (dt_cmp (o_eq hr) r2_Eq (dp_v 1) (DE.dp de_str) (by first | exact nomark _ | rfl)) (dss_one (ds_ret (de_joined (.cons de_str (.cons (de_fmt (d_ix (dp_v 0) (DE.dp de_int) (fun _ _ => rfl))) (.cons de_str .nil)))))) dss_nil)
      (dss_cons (ds_if (dt_cmp (o_eq hr) r2_Eq (dp_v 1) (DE.dp de_str) (by first | exact nomark _ | rfl)) (dss_one (ds_ret (de_joined (.cons de_str (.cons (de_fmt (d_ix (dp_v 0) (DE.dp de_int) (fun _ _ => rfl))) (.cons de_str (.cons (de_fmt (d_ix (dp_v 0) (DE.dp de_int) (fun _ _ => rfl))) (.cons de_str .nil)))))))) dss_nil)
      (dss_cons (ds_if (dt_cmp (o_eq hr) r2_Eq (dp_v 1) (DE.dp de_str) (by first | exact nomark _ | rfl)) (dss_one (ds_ret (de_joined (.cons de_str (.cons (de_fmt (de_call1 G_entries_text (hr.mono (by omega)) gd (by rfl) g_entries_text F_entries_text.kp b_entries_text (da_cons (d_ix (dp_v 0) (DE.dp de_int) (fun _ _ => rfl)) da_nil))) (.cons de_str (.cons (de_fmt (de_call1 G_plan_text (hr.mono (by omega)) gd (by rfl) g_plan_text F_plan_text.kp b_plan_text (da_cons (d_ix (dp_v 0) (DE.dp de_int) (fun _ _ => rfl)) da_nil))) (.cons de_str .nil)))))))) dss_nil)
      (dss_cons (ds_if (dt_cmp (o_eq hr) r2_Eq (dp_v 1) (DE.dp de_str) (by first | exact nomark _ | rfl)) (dss_one (ds_ret (de_joined (.cons de_str (.cons (de_fmt (de_call1 G_pairs_text (hr.mono (by omega)) gd (by rfl) g_pairs_text F_pairs_text.kp b_pairs_text (da_cons (d_ix (dp_v 0) (DE.dp de_int) (fun _ _ => rfl)) da_nil))) (.cons de_str (.cons (de_fmt (de_call1 G_plan_text (hr.mono (by omega)) gd (by rfl) g_plan_text F_plan_text.kp b_plan_text (da_cons (d_ix (dp_v 0) (DE.dp de_int) (fun _ _ => rfl)) da_nil))) (.cons de_str (.cons (de_fmt (de_call1 G_plan_text (hr.mono (by omega)) gd (by rfl) g_plan_text F_plan_text.kp b_plan_text (da_cons (d_ix (dp_v 0) (DE.dp de_int) (fun _ _ => rfl)) da_nil))) (.cons de_str .nil)))))))))) dss_nil)
      (dss_cons (ds_if (dt_cmp (o_eq hr) r2_Eq (dp_v 1) (DE.dp de_str) (by first | exact nomark _ | rfl)) (dss_one (ds_ret (de_joined (.cons de_str (.cons (de_fmt (de_call1 G_plan_text (hr.mono (by omega)) gd (by rfl) g_plan_text F_plan_text.kp b_plan_text (da_cons (d_ix (dp_v 0) (DE.dp de_int) (fun _ _ => rfl)) da_nil))) (.cons de_str (.cons (de_fmt (d_ix (dp_v 0) (DE.dp de_int) (fun _ _ => rfl))) (.cons de_str (.cons (de_fmt (d_ix (dp_v 0) (DE.dp de_int) (fun _ _ => rfl))) (.cons de_str (.cons (de_fmt (d_ix (dp_v 0) (DE.dp de_int) (fun _ _ => rfl))) (.cons de_str .nil)))))))))))) dss_nil)
      (dss_one (ds_ret (de_joined (.cons (de_fmt (de_v 1)) (.cons de_str (.cons (de_fmt (de_call1 G_plan_text (hr.mono (by omega)) gd (by rfl) g_plan_text F_plan_text.kp b_plan_text (da_cons (d_ix (dp_v 0) (DE.dp de_int) (fun _ _ => rfl)) da_nil))) (.cons de_str .nil))))))))))))), fun ds l pre => ?_⟩
    obtain ⟨p, rfl, ok, cn, n30⟩ := pre
    obtain ⟨t1, t2, t3, t4, t5, t6, t7, t8, t9, t10, t11, t12, t13⟩ := lits
    have sl := sizeLine_eq
    have tlE : tl Str.empty = [] := rfl
    cases p with
    | heap t =>
      have ok : Word t := ok
      have := ok.hi
      simp (decide := true) only [startD, tdSeq, tdNext, tdSet, tdSetO, tdDrop, tdRet, tdRetO, tdRetN, tdIfS, tdAsg, tdPar, tdBreak, tdCont, tdFor, tdV, tdC, tdOp, tdB, tdT, tdNotT, tdAndT, tdOrT, tdAnd, tdOr, tdNot, tdIf, tdNeg, tdTup, tdLst, tdNil, tdCons, tdStar, tdMut, tdM1, tdSl, tdoN, tdoS, tdFmt, tdJs, tdgN, tdgT, tdgNil, tdgCons, pdE, pdV, pdNil, pdCons, getL, peek, frz, onB, onL, onT, owL, unowned, wipeD, tiL, tiT, tiS, tiV, tiR1, tiR2, tiE, tiZ, ttY, tdLc, pAdd, pMul, pII, pII0, pSS, pEq2, pIn2, pOrd, pIx2, pSl2, pSlL, pCat, pIsN, pLen, pI1, pI2, pInt, pStrI, pList, pTuple, pAll, pAny, pRepr, pJoin, pmAppend, pmExtend, pmPopAt, List.map_cons, List.map_nil, List.cons_append, List.nil_append, List.append_nil, List.length_cons, List.length_nil, List.getElem?_cons_zero, List.getElem?_cons_succ, List.set_cons_zero, List.set_cons_succ, List.replicate_succ, List.replicate_zero, Function.comp, Nat.reduceAdd, Nat.reduceSub, Nat.reduceLT, true_and, and_true, if_true, if_false, Bool.false_eq_true, ite_true, ite_false, Bool.not_true, Bool.not_false, reduceCtorEq, eqOk_str, eqOk_int, eqOk_bl, eqD_str, eqD_int, eqD_bl, decide_eq_true_eq, false_implies, true_implies, Option.some.injEq, exists_eq_left, exists_eq_left', exists_eq', or_false, false_or, eq_self, at0, at1, at2, at3, at4, D.str.injEq, D.int.injEq, D.bl.injEq, D.tup.injEq, D.lst.injEq, List.cons.injEq, len_app, Pl.D, fsPlan_fr]
      refine ⟨by omega, by omega, by omega, .heap t, rfl, _, rfl, ?_⟩
      simp only [tl_app, Pl.tx, tlE, List.nil_append, List.append_assoc]
    | index t i =>
      have ok : Word t ∧ Word i := ok
      have := ok.1.hi
      have := ok.2.hi
      simp (decide := true) only [startD, tdSeq, tdNext, tdSet, tdSetO, tdDrop, tdRet, tdRetO, tdRetN, tdIfS, tdAsg, tdPar, tdBreak, tdCont, tdFor, tdV, tdC, tdOp, tdB, tdT, tdNotT, tdAndT, tdOrT, tdAnd, tdOr, tdNot, tdIf, tdNeg, tdTup, tdLst, tdNil, tdCons, tdStar, tdMut, tdM1, tdSl, tdoN, tdoS, tdFmt, tdJs, tdgN, tdgT, tdgNil, tdgCons, pdE, pdV, pdNil, pdCons, getL, peek, frz, onB, onL, onT, owL, unowned, wipeD, tiL, tiT, tiS, tiV, tiR1, tiR2, tiE, tiZ, ttY, tdLc, pAdd, pMul, pII, pII0, pSS, pEq2, pIn2, pOrd, pIx2, pSl2, pSlL, pCat, pIsN, pLen, pI1, pI2, pInt, pStrI, pList, pTuple, pAll, pAny, pRepr, pJoin, pmAppend, pmExtend, pmPopAt, List.map_cons, List.map_nil, List.cons_append, List.nil_append, List.append_nil, List.length_cons, List.length_nil, List.getElem?_cons_zero, List.getElem?_cons_succ, List.set_cons_zero, List.set_cons_succ, List.replicate_succ, List.replicate_zero, Function.comp, Nat.reduceAdd, Nat.reduceSub, Nat.reduceLT, true_and, and_true, if_true, if_false, Bool.false_eq_true, ite_true, ite_false, Bool.not_true, Bool.not_false, reduceCtorEq, eqOk_str, eqOk_int, eqOk_bl, eqD_str, eqD_int, eqD_bl, decide_eq_true_eq, false_implies, true_implies, Option.some.injEq, exists_eq_left, exists_eq_left', exists_eq', or_false, false_or, eq_self, at0, at1, at2, at3, at4, D.str.injEq, D.int.injEq, D.bl.injEq, D.tup.injEq, D.lst.injEq, List.cons.injEq, len_app, Pl.D, fsPlan_fr]
      refine ⟨by omega, by omega, by omega, by omega, by omega, by omega, .index t i, rfl, _, rfl, ?_⟩
      simp only [tl_app, Pl.tx, tlE, List.nil_append, List.append_assoc]
    | sort es p =>
      have ok : (es.length ≤ 8 ∧ ∀ e ∈ es, Ref e.1) ∧ p.Ok := ok
      have cn : p.cnt + 1 ≤ n + 1 := cn
      have l1 := estx_len ok.1.1 ok.1.2
      have l2 := Pl.tx_len ok.2
      simp (decide := true) only [startD, tdSeq, tdNext, tdSet, tdSetO, tdDrop, tdRet, tdRetO, tdRetN, tdIfS, tdAsg, tdPar, tdBreak, tdCont, tdFor, tdV, tdC, tdOp, tdB, tdT, tdNotT, tdAndT, tdOrT, tdAnd, tdOr, tdNot, tdIf, tdNeg, tdTup, tdLst, tdNil, tdCons, tdStar, tdMut, tdM1, tdSl, tdoN, tdoS, tdFmt, tdJs, tdgN, tdgT, tdgNil, tdgCons, pdE, pdV, pdNil, pdCons, getL, peek, frz, onB, onL, onT, owL, unowned, wipeD, tiL, tiT, tiS, tiV, tiR1, tiR2, tiE, tiZ, ttY, tdLc, pAdd, pMul, pII, pII0, pSS, pEq2, pIn2, pOrd, pIx2, pSl2, pSlL, pCat, pIsN, pLen, pI1, pI2, pInt, pStrI, pList, pTuple, pAll, pAny, pRepr, pJoin, pmAppend, pmExtend, pmPopAt, List.map_cons, List.map_nil, List.cons_append, List.nil_append, List.append_nil, List.length_cons, List.length_nil, List.getElem?_cons_zero, List.getElem?_cons_succ, List.set_cons_zero, List.set_cons_succ, List.replicate_succ, List.replicate_zero, Function.comp, Nat.reduceAdd, Nat.reduceSub, Nat.reduceLT, true_and, and_true, if_true, if_false, Bool.false_eq_true, ite_true, ite_false, Bool.not_true, Bool.not_false, reduceCtorEq, eqOk_str, eqOk_int, eqOk_bl, eqD_str, eqD_int, eqD_bl, decide_eq_true_eq, false_implies, true_implies, Option.some.injEq, exists_eq_left, exists_eq_left', exists_eq', or_false, false_or, eq_self, at0, at1, at2, at3, at4, D.str.injEq, D.int.injEq, D.bl.injEq, D.tup.injEq, D.lst.injEq, List.cons.injEq, len_app, Pl.D, fsPlan_fr]
      refine ⟨⟨es, .inl rfl, ok.1.1, fun e m => by have := (ok.1.2 e m).len; omega⟩, fun d hd => ?_⟩
      obtain ⟨s1, rfl, e1⟩ := entries_post hd
      have e3 := tl_len s1
      rw [e1] at e3
      refine ⟨by omega, by omega, by omega, ⟨p, rfl, ok.2, by omega, by omega⟩, fun d hd => ?_⟩
      obtain ⟨s2, rfl, e2⟩ := plan_post hd
      have e4 := tl_len s2
      rw [e2] at e4
      refine ⟨by omega, by omega, by omega, .sort es p, rfl, _, rfl, ?_⟩
      simp only [tl_app, Pl.tx, tlE, e1, e2, List.nil_append, List.append_assoc]
    | merge ps p q =>
      have ok : (ps ≠ [] ∧ ps.length ≤ 3 ∧ ∀ e ∈ ps, Ref e.1 ∧ Ref e.2.1) ∧ p.Ok ∧ q.Ok := ok
      have cn : p.cnt + q.cnt + 1 ≤ n + 1 := cn
      have l1 := prstx_len ok.1.2.1 ok.1.2.2
      have l2 := Pl.tx_len ok.2.1
      have l3 := Pl.tx_len ok.2.2
      simp (decide := true) only [startD, tdSeq, tdNext, tdSet, tdSetO, tdDrop, tdRet, tdRetO, tdRetN, tdIfS, tdAsg, tdPar, tdBreak, tdCont, tdFor, tdV, tdC, tdOp, tdB, tdT, tdNotT, tdAndT, tdOrT, tdAnd, tdOr, tdNot, tdIf, tdNeg, tdTup, tdLst, tdNil, tdCons, tdStar, tdMut, tdM1, tdSl, tdoN, tdoS, tdFmt, tdJs, tdgN, tdgT, tdgNil, tdgCons, pdE, pdV, pdNil, pdCons, getL, peek, frz, onB, onL, onT, owL, unowned, wipeD, tiL, tiT, tiS, tiV, tiR1, tiR2, tiE, tiZ, ttY, tdLc, pAdd, pMul, pII, pII0, pSS, pEq2, pIn2, pOrd, pIx2, pSl2, pSlL, pCat, pIsN, pLen, pI1, pI2, pInt, pStrI, pList, pTuple, pAll, pAny, pRepr, pJoin, pmAppend, pmExtend, pmPopAt, List.map_cons, List.map_nil, List.cons_append, List.nil_append, List.append_nil, List.length_cons, List.length_nil, List.getElem?_cons_zero, List.getElem?_cons_succ, List.set_cons_zero, List.set_cons_succ, List.replicate_succ, List.replicate_zero, Function.comp, Nat.reduceAdd, Nat.reduceSub, Nat.reduceLT, true_and, and_true, if_true, if_false, Bool.false_eq_true, ite_true, ite_false, Bool.not_true, Bool.not_false, reduceCtorEq, eqOk_str, eqOk_int, eqOk_bl, eqD_str, eqD_int, eqD_bl, decide_eq_true_eq, false_implies, true_implies, Option.some.injEq, exists_eq_left, exists_eq_left', exists_eq', or_false, false_or, eq_self, at0, at1, at2, at3, at4, D.str.injEq, D.int.injEq, D.bl.injEq, D.tup.injEq, D.lst.injEq, List.cons.injEq, len_app, Pl.D, fsPlan_fr]
      refine ⟨⟨ps, rfl, ok.1.2.1, fun e m => by have := (ok.1.2.2 e m).1.len; have := (ok.1.2.2 e m).2.len; omega⟩, fun d hd => ?_⟩
      obtain ⟨s1, rfl, e1⟩ := pairs_post hd
      have e3 := tl_len s1
      rw [e1] at e3
      refine ⟨by omega, by omega, by omega, ⟨p, rfl, ok.2.1, by omega, by omega⟩, fun d hd => ?_⟩
      obtain ⟨s2, rfl, e2⟩ := plan_post hd
      have e4 := tl_len s2
      rw [e2] at e4
      refine ⟨by omega, by omega, by omega, ⟨q, rfl, ok.2.2, by omega, by omega⟩, fun d hd => ?_⟩
      obtain ⟨s3, rfl, e5⟩ := plan_post hd
      have e6 := tl_len s3
      rw [e5] at e6
      refine ⟨by omega, by omega, by omega, .merge ps p q, rfl, _, rfl, ?_⟩
      simp only [tl_app, Pl.tx, tlE, e1, e2, e5, List.nil_append, List.append_assoc]
    | seek p t i b =>
      have ok : p.Ok ∧ Word t ∧ Word i ∧ 1 ≤ b ∧ b ≤ 3 := ok
      have cn : p.cnt + 1 ≤ n + 1 := cn
      have l2 := Pl.tx_len ok.1
      have := ok.2.1.hi
      have := ok.2.2.1.hi
      have lb : b.natAbs.log2 < 1920 := PySem.Flt.log2_lt_of (by decide) (Nat.lt_of_lt_of_le (show b.natAbs < 2 ^ 2 by omega) (Nat.pow_le_pow_right (by decide) (by decide)))
      have db := dig_len ok.2.2.2.1 ok.2.2.2.2
      rw [tl_len] at db
      simp (decide := true) only [startD, tdSeq, tdNext, tdSet, tdSetO, tdDrop, tdRet, tdRetO, tdRetN, tdIfS, tdAsg, tdPar, tdBreak, tdCont, tdFor, tdV, tdC, tdOp, tdB, tdT, tdNotT, tdAndT, tdOrT, tdAnd, tdOr, tdNot, tdIf, tdNeg, tdTup, tdLst, tdNil, tdCons, tdStar, tdMut, tdM1, tdSl, tdoN, tdoS, tdFmt, tdJs, tdgN, tdgT, tdgNil, tdgCons, pdE, pdV, pdNil, pdCons, getL, peek, frz, onB, onL, onT, owL, unowned, wipeD, tiL, tiT, tiS, tiV, tiR1, tiR2, tiE, tiZ, ttY, tdLc, pAdd, pMul, pII, pII0, pSS, pEq2, pIn2, pOrd, pIx2, pSl2, pSlL, pCat, pIsN, pLen, pI1, pI2, pInt, pStrI, pList, pTuple, pAll, pAny, pRepr, pJoin, pmAppend, pmExtend, pmPopAt, List.map_cons, List.map_nil, List.cons_append, List.nil_append, List.append_nil, List.length_cons, List.length_nil, List.getElem?_cons_zero, List.getElem?_cons_succ, List.set_cons_zero, List.set_cons_succ, List.replicate_succ, List.replicate_zero, Function.comp, Nat.reduceAdd, Nat.reduceSub, Nat.reduceLT, true_and, and_true, if_true, if_false, Bool.false_eq_true, ite_true, ite_false, Bool.not_true, Bool.not_false, reduceCtorEq, eqOk_str, eqOk_int, eqOk_bl, eqD_str, eqD_int, eqD_bl, decide_eq_true_eq, false_implies, true_implies, Option.some.injEq, exists_eq_left, exists_eq_left', exists_eq', or_false, false_or, eq_self, at0, at1, at2, at3, at4, D.str.injEq, D.int.injEq, D.bl.injEq, D.tup.injEq, D.lst.injEq, List.cons.injEq, len_app, Pl.D, fsPlan_fr]
      refine ⟨⟨p, rfl, ok.1, by omega, by omega⟩, fun d hd => ?_⟩
      obtain ⟨s2, rfl, e2⟩ := plan_post hd
      have e4 := tl_len s2
      rw [e2] at e4
      dsimp only
      refine ⟨by omega, by omega, by omega, by omega, by omega, by omega, by omega, by omega, by omega, lb, by omega, by omega, .seek p t i b, rfl, _, rfl, ?_⟩
      simp only [tl_app, Pl.tx, tlE, e2, List.nil_append, List.append_assoc]
    | dist p =>
      have ok : p.Ok := ok
      have cn : p.cnt + 1 ≤ n + 1 := cn
      have l2 := Pl.tx_len ok
      simp (decide := true) only [startD, tdSeq, tdNext, tdSet, tdSetO, tdDrop, tdRet, tdRetO, tdRetN, tdIfS, tdAsg, tdPar, tdBreak, tdCont, tdFor, tdV, tdC, tdOp, tdB, tdT, tdNotT, tdAndT, tdOrT, tdAnd, tdOr, tdNot, tdIf, tdNeg, tdTup, tdLst, tdNil, tdCons, tdStar, tdMut, tdM1, tdSl, tdoN, tdoS, tdFmt, tdJs, tdgN, tdgT, tdgNil, tdgCons, pdE, pdV, pdNil, pdCons, getL, peek, frz, onB, onL, onT, owL, unowned, wipeD, tiL, tiT, tiS, tiV, tiR1, tiR2, tiE, tiZ, ttY, tdLc, pAdd, pMul, pII, pII0, pSS, pEq2, pIn2, pOrd, pIx2, pSl2, pSlL, pCat, pIsN, pLen, pI1, pI2, pInt, pStrI, pList, pTuple, pAll, pAny, pRepr, pJoin, pmAppend, pmExtend, pmPopAt, List.map_cons, List.map_nil, List.cons_append, List.nil_append, List.append_nil, List.length_cons, List.length_nil, List.getElem?_cons_zero, List.getElem?_cons_succ, List.set_cons_zero, List.set_cons_succ, List.replicate_succ, List.replicate_zero, Function.comp, Nat.reduceAdd, Nat.reduceSub, Nat.reduceLT, true_and, and_true, if_true, if_false, Bool.false_eq_true, ite_true, ite_false, Bool.not_true, Bool.not_false, reduceCtorEq, eqOk_str, eqOk_int, eqOk_bl, eqD_str, eqD_int, eqD_bl, decide_eq_true_eq, false_implies, true_implies, Option.some.injEq, exists_eq_left, exists_eq_left', exists_eq', or_false, false_or, eq_self, at0, at1, at2, at3, at4, D.str.injEq, D.int.injEq, D.bl.injEq, D.tup.injEq, D.lst.injEq, List.cons.injEq, len_app, Pl.D, fsPlan_fr]
      refine ⟨⟨p, rfl, ok, by omega, by omega⟩, fun d hd => ?_⟩
      obtain ⟨s2, rfl, e2⟩ := plan_post hd
      have e4 := tl_len s2
      rw [e2] at e4
      dsimp only
      refine ⟨by omega, by omega, by omega, .dist p, rfl, _, rfl, ?_⟩
      have ew : tl (Str.ofString "distinct(") = tl (Str.ofString "distinct") ++ tl (Str.ofString "(") := by decide
      simp only [tl_app, Pl.tx, tlE, e2, ew, List.nil_append, List.append_assoc]
    | grps p =>
      have ok : p.Ok := ok
      have cn : p.cnt + 1 ≤ n + 1 := cn
      have l2 := Pl.tx_len ok
      simp (decide := true) only [startD, tdSeq, tdNext, tdSet, tdSetO, tdDrop, tdRet, tdRetO, tdRetN, tdIfS, tdAsg, tdPar, tdBreak, tdCont, tdFor, tdV, tdC, tdOp, tdB, tdT, tdNotT, tdAndT, tdOrT, tdAnd, tdOr, tdNot, tdIf, tdNeg, tdTup, tdLst, tdNil, tdCons, tdStar, tdMut, tdM1, tdSl, tdoN, tdoS, tdFmt, tdJs, tdgN, tdgT, tdgNil, tdgCons, pdE, pdV, pdNil, pdCons, getL, peek, frz, onB, onL, onT, owL, unowned, wipeD, tiL, tiT, tiS, tiV, tiR1, tiR2, tiE, tiZ, ttY, tdLc, pAdd, pMul, pII, pII0, pSS, pEq2, pIn2, pOrd, pIx2, pSl2, pSlL, pCat, pIsN, pLen, pI1, pI2, pInt, pStrI, pList, pTuple, pAll, pAny, pRepr, pJoin, pmAppend, pmExtend, pmPopAt, List.map_cons, List.map_nil, List.cons_append, List.nil_append, List.append_nil, List.length_cons, List.length_nil, List.getElem?_cons_zero, List.getElem?_cons_succ, List.set_cons_zero, List.set_cons_succ, List.replicate_succ, List.replicate_zero, Function.comp, Nat.reduceAdd, Nat.reduceSub, Nat.reduceLT, true_and, and_true, if_true, if_false, Bool.false_eq_true, ite_true, ite_false, Bool.not_true, Bool.not_false, reduceCtorEq, eqOk_str, eqOk_int, eqOk_bl, eqD_str, eqD_int, eqD_bl, decide_eq_true_eq, false_implies, true_implies, Option.some.injEq, exists_eq_left, exists_eq_left', exists_eq', or_false, false_or, eq_self, at0, at1, at2, at3, at4, D.str.injEq, D.int.injEq, D.bl.injEq, D.tup.injEq, D.lst.injEq, List.cons.injEq, len_app, Pl.D, fsPlan_fr]
      refine ⟨⟨p, rfl, ok, by omega, by omega⟩, fun d hd => ?_⟩
      obtain ⟨s2, rfl, e2⟩ := plan_post hd
      have e4 := tl_len s2
      rw [e2] at e4
      dsimp only
      refine ⟨by omega, by omega, by omega, .grps p, rfl, _, rfl, ?_⟩
      have ew : tl (Str.ofString "groups(") = tl (Str.ofString "groups") ++ tl (Str.ofString "(") := by decide
      simp only [tl_app, Pl.tx, tlE, e2, ew, List.nil_append, List.append_assoc]
    | fst p =>
      have ok : p.Ok := ok
      have cn : p.cnt + 1 ≤ n + 1 := cn
      have l2 := Pl.tx_len ok
      simp (decide := true) only [startD, tdSeq, tdNext, tdSet, tdSetO, tdDrop, tdRet, tdRetO, tdRetN, tdIfS, tdAsg, tdPar, tdBreak, tdCont, tdFor, tdV, tdC, tdOp, tdB, tdT, tdNotT, tdAndT, tdOrT, tdAnd, tdOr, tdNot, tdIf, tdNeg, tdTup, tdLst, tdNil, tdCons, tdStar, tdMut, tdM1, tdSl, tdoN, tdoS, tdFmt, tdJs, tdgN, tdgT, tdgNil, tdgCons, pdE, pdV, pdNil, pdCons, getL, peek, frz, onB, onL, onT, owL, unowned, wipeD, tiL, tiT, tiS, tiV, tiR1, tiR2, tiE, tiZ, ttY, tdLc, pAdd, pMul, pII, pII0, pSS, pEq2, pIn2, pOrd, pIx2, pSl2, pSlL, pCat, pIsN, pLen, pI1, pI2, pInt, pStrI, pList, pTuple, pAll, pAny, pRepr, pJoin, pmAppend, pmExtend, pmPopAt, List.map_cons, List.map_nil, List.cons_append, List.nil_append, List.append_nil, List.length_cons, List.length_nil, List.getElem?_cons_zero, List.getElem?_cons_succ, List.set_cons_zero, List.set_cons_succ, List.replicate_succ, List.replicate_zero, Function.comp, Nat.reduceAdd, Nat.reduceSub, Nat.reduceLT, true_and, and_true, if_true, if_false, Bool.false_eq_true, ite_true, ite_false, Bool.not_true, Bool.not_false, reduceCtorEq, eqOk_str, eqOk_int, eqOk_bl, eqD_str, eqD_int, eqD_bl, decide_eq_true_eq, false_implies, true_implies, Option.some.injEq, exists_eq_left, exists_eq_left', exists_eq', or_false, false_or, eq_self, at0, at1, at2, at3, at4, D.str.injEq, D.int.injEq, D.bl.injEq, D.tup.injEq, D.lst.injEq, List.cons.injEq, len_app, Pl.D, fsPlan_fr]
      refine ⟨⟨p, rfl, ok, by omega, by omega⟩, fun d hd => ?_⟩
      obtain ⟨s2, rfl, e2⟩ := plan_post hd
      have e4 := tl_len s2
      rw [e2] at e4
      dsimp only
      refine ⟨by omega, by omega, by omega, .fst p, rfl, _, rfl, ?_⟩
      have ew : tl (Str.ofString "first(") = tl (Str.ofString "first") ++ tl (Str.ofString "(") := by decide
      simp only [tl_app, Pl.tx, tlE, e2, ew, List.nil_append, List.append_assoc]
end
end K96


set_option Elab.async false
set_option linter.all false
set_option maxRecDepth 100000
set_option maxHeartbeats 8000000
namespace K96
open PySem PySem.Spec L2 PSG PSS DL TL
open PyProof.Rows (IntsAre AllBare)

abbrev s__law_entry_text : Stmt := topS 23
theorem sc__law_entry_text : FnScope ["_law_entry"] ["_law_entry"] (defScope s__law_entry_text) := ⟨rfl, rfl, rfl, by decide +kernel, rfl, by decide +kernel, by decide +kernel⟩
abbrev s__law_order_text : Stmt := topS 24
theorem sc__law_order_text : FnScope ["_law_entries", "_law_entry"] ["_law_entries"] (defScope s__law_order_text) := ⟨rfl, rfl, rfl, by decide +kernel, rfl, by decide +kernel, by decide +kernel⟩
abbrev s__law_pair_text : Stmt := topS 25
theorem sc__law_pair_text : FnScope ["_law_pair"] ["_law_pair"] (defScope s__law_pair_text) := ⟨rfl, rfl, rfl, by decide +kernel, rfl, by decide +kernel, by decide +kernel⟩
abbrev s__law_text : Stmt := topS 26
theorem sc__law_text : FnScope ["_law_tree", "_law_parts", "_law_pair"] ["_law_tree"] (defScope s__law_text) := ⟨rfl, rfl, rfl, by decide +kernel, rfl, by decide +kernel, by decide +kernel⟩
theorem Word.ok {x : Str} (h : Word x) : PyData.strOk x = true := strOk_of fun c m => by have := h.az c m; omega
theorem Ref.ch {x : Str} (h : Ref x) : ∀ c ∈ tl x, c = 46 ∨ (97 ≤ c ∧ c ≤ 122) := by
  obtain ⟨t, w, ht, hw, e⟩ := h
  rw [e]
  intro c m
  rcases List.mem_append.mp m with m | m
  · rcases List.mem_append.mp m with m | m
    · exact .inr (ht.az c m)
    · exact .inl (List.mem_singleton.mp m)
  · exact .inr (hw.az c m)
theorem Ref.ok {x : Str} (h : Ref x) : PyData.strOk x = true := strOk_of fun c m => by have := h.ch c m; omega
theorem enD_nice {e : En} (h : Ref e.1) : (enD e).fine = true ∧ (enD e).dep = 1 ∧ (enD e).nb = true ∧ (enD e).w ≤ 300 := by
  obtain ⟨c, b⟩ := e
  have l : c.length ≤ 17 := Ref.len h
  have ok : PyData.strOk c = true := Ref.ok h
  have l2 : (Str.ofString "down").length = 4 := by decide
  have l3 : (Str.ofString "up").length = 2 := by decide
  have o2 : PyData.strOk (Str.ofString "down") = true := by decide +kernel
  have o3 : PyData.strOk (Str.ofString "up") = true := by decide +kernel
  cases b <;> simp [enD, dirS, D.fine, D.fines, D.dep, D.deps, D.nb, D.nbs, D.w, D.ws, ok, o2, o3, l2, l3] <;> omega
theorem fines_map {α : Type} {f : α → D} {xs : List α} (h : ∀ x ∈ xs, (f x).fine = true) : D.fines (xs.map f) = true := by
  induction xs with
  | nil => rfl
  | cons x r ih =>
    rw [List.map_cons]
    unfold D.fines
    rw [h x List.mem_cons_self, ih fun y m => h y (List.mem_cons_of_mem _ m)]
    rfl
theorem nbs_map {α : Type} {f : α → D} {xs : List α} (h : ∀ x ∈ xs, (f x).nb = true) : D.nbs (xs.map f) = true := by
  induction xs with
  | nil => rfl
  | cons x r ih =>
    rw [List.map_cons]
    unfold D.nbs
    rw [h x List.mem_cons_self, ih fun y m => h y (List.mem_cons_of_mem _ m)]
    rfl
theorem deps_map {α : Type} {f : α → D} {n : Nat} {xs : List α} (h : ∀ x ∈ xs, (f x).dep ≤ n) : D.deps (xs.map f) ≤ n := by
  induction xs with
  | nil => exact Nat.zero_le _
  | cons x r ih =>
    rw [List.map_cons]
    unfold D.deps
    have := h x List.mem_cons_self
    have := ih fun y m => h y (List.mem_cons_of_mem _ m)
    omega
theorem ws_map {α : Type} {f : α → D} {n : Nat} {xs : List α} (h : ∀ x ∈ xs, (f x).w ≤ n) : D.ws (xs.map f) ≤ xs.length * (n + 2) := by
  induction xs with
  | nil => exact Nat.zero_le _
  | cons x r ih =>
    rw [List.map_cons, List.length_cons, Nat.succ_mul]
    unfold D.ws
    have := h x List.mem_cons_self
    have := ih fun y m => h y (List.mem_cons_of_mem _ m)
    omega
theorem es_empty {es : List En} (h : ∀ e ∈ es, Ref e.1) : eqOk (.tup (es.map enD)) (.tup []) ∧ (eqD (.tup (es.map enD)) (.tup []) = true ↔ es = []) := by
  have f : (D.tup (es.map enD)).fine = true := by
    unfold D.fine
    exact fines_map fun e m => (enD_nice (h e m)).1
  have n : (D.tup (es.map enD)).nb = true := by
    unfold D.nb
    exact nbs_map fun e m => (enD_nice (h e m)).2.2.1
  have d : (D.tup (es.map enD)).dep ≤ 60 := by
    unfold D.dep
    have := deps_map (f := enD) (n := 1) (xs := es) fun e m => by rw [(enD_nice (h e m)).2.1]; exact Nat.le_refl _
    omega
  refine ⟨eqOk_of f d rfl (by decide), ?_⟩
  rw [eqD_eq n rfl, D.tup.injEq, List.map_eq_nil_iff]
section
variable {P : Program} {w : World} {K : PySem.W.Frag} {mg : Str → Option Value} {base : Heap}
def fsLE : FS where
  pre := fun ds => ∃ e : En, ds = [enD e] ∧ e.1.length ≤ 50
  post := fun ds d => ∃ e : En, ds = [enD e] ∧ d = .str (ety e)
theorem le_post {e : En} {d : D} (h : fsLE.post [enD e] d) : d = .str (ety e) := by
  obtain ⟨e', eq, z⟩ := h
  rw [enD_inj (List.cons.inj eq).1]
  exact z
theorem ok__law_entry_text {f : Addr} {fd : FuncData} (F : Fun K "_law_entry_text" "_law_entry_text" s__law_entry_text f fd) (T : Blt K mg) : FnG P w K mg base CX0 1 f fd ["_law_entry"] (spD K 1 fsLE) := by
  have sc := sc__law_entry_text
  refine okD (k := 0) F sc fun X hX hr gd => ?_
  obtain ⟨cdv, A, outer, s, H, E, rfl⟩ := hX
  refine ⟨_, (dss_one (ds_ret (de_if (dt_cmp (o_eq hr) r2_Eq (DE.dp (d_ix (dp_v 0) (DE.dp de_int) (fun _ _ => rfl))) (DE.dp de_str) (by first | exact nomark _ | rfl)) (d_ix (dp_v 0) (DE.dp de_int) (fun _ _ => rfl)) (d_add (DE.dp (d_ix (dp_v 0) (DE.dp de_int) (fun _ _ => rfl))) (DE.dp de_str))))), fun ds l pre => ?_⟩
  obtain ⟨⟨c, b⟩, rfl, small⟩ := pre
  have small : c.length ≤ 50 := small
  have e5 : (Str.ofString " down").length = 5 := by decide
  have sl := sizeLine_eq
  cases b
  · simp (decide := true) only [startD, tdSeq, tdNext, tdSet, tdSetO, tdDrop, tdRet, tdRetO, tdRetN, tdIfS, tdAsg, tdPar, tdBreak, tdCont, tdFor, tdV, tdC, tdOp, tdB, tdT, tdNotT, tdAndT, tdOrT, tdAnd, tdOr, tdNot, tdIf, tdNeg, tdTup, tdLst, tdNil, tdCons, tdStar, tdMut, tdM1, tdSl, tdoN, tdoS, tdFmt, tdJs, tdgN, tdgT, tdgNil, tdgCons, pdE, pdV, pdNil, pdCons, getL, peek, frz, onB, onL, onT, owL, unowned, wipeD, tiL, tiT, tiS, tiV, tiR1, tiR2, tiE, tiZ, ttY, tdLc, pAdd, pMul, pII, pII0, pSS, pEq2, pIn2, pOrd, pIx2, pSl2, pSlL, pCat, pIsN, pLen, pI1, pI2, pInt, pStrI, pList, pTuple, pAll, pAny, pRepr, pJoin, pmAppend, pmExtend, pmPopAt, List.map_cons, List.map_nil, List.cons_append, List.nil_append, List.append_nil, List.length_cons, List.length_nil, List.getElem?_cons_zero, List.getElem?_cons_succ, List.set_cons_zero, List.set_cons_succ, List.replicate_succ, List.replicate_zero, Function.comp, Nat.reduceAdd, Nat.reduceSub, Nat.reduceLT, true_and, and_true, if_true, if_false, Bool.false_eq_true, ite_true, ite_false, Bool.not_true, Bool.not_false, reduceCtorEq, eqOk_str, eqOk_int, eqOk_bl, eqD_str, eqD_int, eqD_bl, decide_eq_true_eq, false_implies, true_implies, Option.some.injEq, exists_eq_left, exists_eq_left', exists_eq', or_false, false_or, eq_self, at0, at1, at2, at3, at4, D.str.injEq, D.int.injEq, D.bl.injEq, D.tup.injEq, D.lst.injEq, List.cons.injEq, enD, dirS, fsLE]
    exact ⟨(c, false), ⟨rfl, rfl⟩, rfl⟩
  · simp (decide := true) only [startD, tdSeq, tdNext, tdSet, tdSetO, tdDrop, tdRet, tdRetO, tdRetN, tdIfS, tdAsg, tdPar, tdBreak, tdCont, tdFor, tdV, tdC, tdOp, tdB, tdT, tdNotT, tdAndT, tdOrT, tdAnd, tdOr, tdNot, tdIf, tdNeg, tdTup, tdLst, tdNil, tdCons, tdStar, tdMut, tdM1, tdSl, tdoN, tdoS, tdFmt, tdJs, tdgN, tdgT, tdgNil, tdgCons, pdE, pdV, pdNil, pdCons, getL, peek, frz, onB, onL, onT, owL, unowned, wipeD, tiL, tiT, tiS, tiV, tiR1, tiR2, tiE, tiZ, ttY, tdLc, pAdd, pMul, pII, pII0, pSS, pEq2, pIn2, pOrd, pIx2, pSl2, pSlL, pCat, pIsN, pLen, pI1, pI2, pInt, pStrI, pList, pTuple, pAll, pAny, pRepr, pJoin, pmAppend, pmExtend, pmPopAt, List.map_cons, List.map_nil, List.cons_append, List.nil_append, List.append_nil, List.length_cons, List.length_nil, List.getElem?_cons_zero, List.getElem?_cons_succ, List.set_cons_zero, List.set_cons_succ, List.replicate_succ, List.replicate_zero, Function.comp, Nat.reduceAdd, Nat.reduceSub, Nat.reduceLT, true_and, and_true, if_true, if_false, Bool.false_eq_true, ite_true, ite_false, Bool.not_true, Bool.not_false, reduceCtorEq, eqOk_str, eqOk_int, eqOk_bl, eqD_str, eqD_int, eqD_bl, decide_eq_true_eq, false_implies, true_implies, Option.some.injEq, exists_eq_left, exists_eq_left', exists_eq', or_false, false_or, eq_self, at0, at1, at2, at3, at4, D.str.injEq, D.int.injEq, D.bl.injEq, D.tup.injEq, D.lst.injEq, List.cons.injEq, enD, dirS, fsLE]
    exact ⟨by omega, (c, true), ⟨rfl, rfl⟩, rfl⟩
def fsLO : FS where
  pre := fun ds => ∃ es : List En, ds = [.tup (es.map enD)] ∧ es.length ≤ 8 ∧ ∀ e ∈ es, Ref e.1
  post := fun ds d => ∃ es : List En, ds = [.tup (es.map enD)] ∧ ∃ s, d = .str s ∧ tl s = estx es
theorem lo_post {es : List En} {d : D} (h : fsLO.post [.tup (es.map enD)] d) : ∃ s, d = .str s ∧ tl s = estx es := by
  obtain ⟨es', eq, z⟩ := h
  rw [map_inj enD_inj (D.tup.inj (List.cons.inj eq).1)]
  exact z
theorem ok__law_order_text {f : Addr} {fd : FuncData} {f0 : Addr} {d0 : FuncData} (F : Fun K "_law_order_text" "_law_order_text" s__law_order_text f fd) (T : Blt K mg)
    (F__law_entry_text : Fun K "_law_entry_text" "_law_entry_text" s__law_entry_text f0 d0) (b__law_entry_text : Binds K d0 ["_law_entry"] []) (g__law_entry_text : mg "_law_entry_text" = some (.ref f0)) (G__law_entry_text : FnG P w K mg base CX0 1 f0 d0 ["_law_entry"] (spD K 1 fsLE)) : FnG P w K mg base CX0 2 f fd ["_law_entries"] (spD K 1 fsLO) := by
  have sc := sc__law_order_text
  refine okD (k := 1) F sc fun X hX hr gd => ?_
  obtain ⟨cdv, A, outer, s, H, E, rfl⟩ := hX
  refine ⟨_, (dss_one (ds_ret (de_if (dt_cmp (o_eq hr) r2_Eq (dp_v 0) (DE.dp (de_tup da_nil)) (by first | exact nomark _ | rfl)) de_str (de_m1 PySem.F.slot_str_join PySem.F.type_str_join mt_join m1_join (DE.dp de_str) (DE.dp (de_lc (own := [("_law_entry", 1)]) (by rfl) sc.nd (di_v 0) (blkOk_by (own := [("_law_entry", 1)]) (N := ["_law_entries", "_law_entry"]) (sc := defScope s__law_order_text) (by decide +kernel)) (fun _ _ _ _ _ => (dg_name (i := 1) sc.nd rfl (.inl rfl))) (fun _ _ _ _ _ => (de_call1 G__law_entry_text (hr.mono (by omega)) gd (by rfl) g__law_entry_text F__law_entry_text.kp b__law_entry_text (da_cons (de_v 1) da_nil))))))))), fun ds l pre => ?_⟩
  simp only [fsLO] at pre ⊢
  obtain ⟨es, rfl, few, rf⟩ := pre
  have jo : joinOk ", " (es.map ety) := join_ok (b := 60) (n := 8) (fun e m => by have := ety_len e; have := (rf e m).len; omega) few (by decide)
  obtain ⟨ok, ee⟩ := es_empty rf
  simp only [startD, tdSeq, tdNext, tdSet, tdSetO, tdDrop, tdRet, tdRetO, tdRetN, tdIfS, tdAsg, tdPar, tdBreak, tdCont, tdFor, tdV, tdC, tdOp, tdB, tdT, tdNotT, tdAndT, tdOrT, tdAnd, tdOr, tdNot, tdIf, tdNeg, tdTup, tdLst, tdNil, tdCons, tdStar, tdMut, tdM1, tdSl, tdoN, tdoS, tdFmt, tdJs, tdgN, tdgT, tdgNil, tdgCons, pdE, pdV, pdNil, pdCons, getL, peek, frz, onB, onL, onT, owL, unowned, wipeD, tiL, tiT, tiS, tiV, tiR1, tiR2, tiE, tiZ, ttY, tdLc, pAdd, pMul, pII, pII0, pSS, pEq2, pIn2, pOrd, pIx2, pSl2, pSlL, pCat, pIsN, pLen, pI1, pI2, pInt, pStrI, pList, pTuple, pAll, pAny, pRepr, pJoin, pmAppend, pmExtend, pmPopAt, List.map_cons, List.map_nil, List.cons_append, List.nil_append, List.append_nil, List.length_cons, List.length_nil, List.getElem?_cons_zero, List.getElem?_cons_succ, List.set_cons_zero, List.set_cons_succ, List.replicate_succ, List.replicate_zero, Function.comp, Nat.reduceAdd, Nat.reduceSub, Nat.reduceLT, true_and, and_true, if_true, if_false, Bool.false_eq_true, ite_true, ite_false, Bool.not_true, Bool.not_false, reduceCtorEq, eqOk_str, eqOk_int, eqOk_bl, eqD_str, eqD_int, eqD_bl, decide_eq_true_eq, false_implies, true_implies, Option.some.injEq, exists_eq_left, exists_eq_left', exists_eq', or_false, false_or, eq_self, at0, at1, at2, at3, at4, D.str.injEq, D.int.injEq, D.bl.injEq, D.tup.injEq, D.lst.injEq, List.cons.injEq]
  refine ⟨Nat.zero_le _, ok, ?_⟩
  split
  · rename_i z
    have e0 := ee.mp z
    exact ⟨es, rfl, by rw [e0]; rfl⟩
  · rename_i z
    have ne : es ≠ [] := fun e => z (ee.mpr e)
    refine ⟨fun i acc => acc = (es.take i).map fun e => D.str (ety e), rfl, fun i d acc e wi => ?_, fun acc wi => ?_⟩
    · obtain ⟨e', he, rfl⟩ := get_map e
      subst wi
      refine ⟨⟨e', rfl, by have := (rf e' (List.mem_of_getElem? he)).len; omega⟩, fun d hd => ⟨by rw [List.length_map, List.length_take, sizeLine_eq]; omega, ?_⟩⟩
      show _ = (es.take (i + 1)).map fun e => D.str (ety e)
      rw [take_map he, le_post hd]
    · subst wi
      rw [List.length_map, take_all, isS_map, toS_map]
      exact ⟨rfl, jo, es, rfl, entries_end ne⟩
def fsLP : FS where
  pre := fun ds => ∃ p : Pr, ds = [prD p] ∧ p.1.length ≤ 20 ∧ p.2.1.length ≤ 20
  post := fun ds d => ∃ p : Pr, ds = [prD p] ∧ d = .str (pty p)
theorem lp_post {e : Pr} {d : D} (h : fsLP.post [prD e] d) : d = .str (pty e) := by
  obtain ⟨e', eq, z⟩ := h
  rw [prD_inj (List.cons.inj eq).1]
  exact z
theorem ok__law_pair_text {f : Addr} {fd : FuncData} {f0 : Addr} {d0 : FuncData} (F : Fun K "_law_pair_text" "_law_pair_text" s__law_pair_text f fd) (T : Blt K mg)
    (F__law_entry_text : Fun K "_law_entry_text" "_law_entry_text" s__law_entry_text f0 d0) (b__law_entry_text : Binds K d0 ["_law_entry"] []) (g__law_entry_text : mg "_law_entry_text" = some (.ref f0)) (G__law_entry_text : FnG P w K mg base CX0 1 f0 d0 ["_law_entry"] (spD K 1 fsLE)) : FnG P w K mg base CX0 2 f fd ["_law_pair"] (spD K 1 fsLP) := by
  have sc := sc__law_pair_text
  refine okD (k := 1) F sc fun X hX hr gd => ?_
  obtain ⟨cdv, A, outer, s, H, E, rfl⟩ := hX
  refine ⟨_, (dss_one (ds_ret (d_add (DE.dp (d_add (DE.dp (d_ix (dp_v 0) (DE.dp de_int) (fun _ _ => rfl))) (DE.dp de_str))) (DE.dp (de_call1 G__law_entry_text (hr.mono (by omega)) gd (by rfl) g__law_entry_text F__law_entry_text.kp b__law_entry_text (da_cons (d_sl (dp_v 0) (do_some de_int) do_none) da_nil)))))), fun ds l pre => ?_⟩
  simp only [fsLP] at pre ⊢
  obtain ⟨⟨a, b, c⟩, rfl, l1, l2⟩ := pre
  have l1 : a.length ≤ 20 := l1
  have l2 : b.length ≤ 20 := l2
  have e3 : (Str.ofString " = ").length = 3 := by decide
  have sl := sizeLine_eq
  simp only [startD, tdSeq, tdNext, tdSet, tdSetO, tdDrop, tdRet, tdRetO, tdRetN, tdIfS, tdAsg, tdPar, tdBreak, tdCont, tdFor, tdV, tdC, tdOp, tdB, tdT, tdNotT, tdAndT, tdOrT, tdAnd, tdOr, tdNot, tdIf, tdNeg, tdTup, tdLst, tdNil, tdCons, tdStar, tdMut, tdM1, tdSl, tdoN, tdoS, tdFmt, tdJs, tdgN, tdgT, tdgNil, tdgCons, pdE, pdV, pdNil, pdCons, getL, peek, frz, onB, onL, onT, owL, unowned, wipeD, tiL, tiT, tiS, tiV, tiR1, tiR2, tiE, tiZ, ttY, tdLc, pAdd, pMul, pII, pII0, pSS, pEq2, pIn2, pOrd, pIx2, pSl2, pSlL, pCat, pIsN, pLen, pI1, pI2, pInt, pStrI, pList, pTuple, pAll, pAny, pRepr, pJoin, pmAppend, pmExtend, pmPopAt, List.map_cons, List.map_nil, List.cons_append, List.nil_append, List.append_nil, List.length_cons, List.length_nil, List.getElem?_cons_zero, List.getElem?_cons_succ, List.set_cons_zero, List.set_cons_succ, List.replicate_succ, List.replicate_zero, Function.comp, Nat.reduceAdd, Nat.reduceSub, Nat.reduceLT, true_and, and_true, if_true, if_false, Bool.false_eq_true, ite_true, ite_false, Bool.not_true, Bool.not_false, reduceCtorEq, eqOk_str, eqOk_int, eqOk_bl, eqD_str, eqD_int, eqD_bl, decide_eq_true_eq, false_implies, true_implies, Option.some.injEq, exists_eq_left, exists_eq_left', exists_eq', or_false, false_or, eq_self, at0, at1, at2, at3, at4, D.str.injEq, D.int.injEq, D.bl.injEq, D.tup.injEq, D.lst.injEq, List.cons.injEq, prD, cutD_1, len_app]
  refine ⟨by omega, ⟨(b, c), rfl, by show b.length ≤ 50; omega⟩, fun d hd => ?_⟩
  have hd := le_post (e := (b, c)) hd
  subst hd
  have z := ety_len (b, c)
  have z : (ety (b, c)).length ≤ b.length + 5 := z
  simp only [startD, tdSeq, tdNext, tdSet, tdSetO, tdDrop, tdRet, tdRetO, tdRetN, tdIfS, tdAsg, tdPar, tdBreak, tdCont, tdFor, tdV, tdC, tdOp, tdB, tdT, tdNotT, tdAndT, tdOrT, tdAnd, tdOr, tdNot, tdIf, tdNeg, tdTup, tdLst, tdNil, tdCons, tdStar, tdMut, tdM1, tdSl, tdoN, tdoS, tdFmt, tdJs, tdgN, tdgT, tdgNil, tdgCons, pdE, pdV, pdNil, pdCons, getL, peek, frz, onB, onL, onT, owL, unowned, wipeD, tiL, tiT, tiS, tiV, tiR1, tiR2, tiE, tiZ, ttY, tdLc, pAdd, pMul, pII, pII0, pSS, pEq2, pIn2, pOrd, pIx2, pSl2, pSlL, pCat, pIsN, pLen, pI1, pI2, pInt, pStrI, pList, pTuple, pAll, pAny, pRepr, pJoin, pmAppend, pmExtend, pmPopAt, List.map_cons, List.map_nil, List.cons_append, List.nil_append, List.append_nil, List.length_cons, List.length_nil, List.getElem?_cons_zero, List.getElem?_cons_succ, List.set_cons_zero, List.set_cons_succ, List.replicate_succ, List.replicate_zero, Function.comp, Nat.reduceAdd, Nat.reduceSub, Nat.reduceLT, true_and, and_true, if_true, if_false, Bool.false_eq_true, ite_true, ite_false, Bool.not_true, Bool.not_false, reduceCtorEq, eqOk_str, eqOk_int, eqOk_bl, eqD_str, eqD_int, eqD_bl, decide_eq_true_eq, false_implies, true_implies, Option.some.injEq, exists_eq_left, exists_eq_left', exists_eq', or_false, false_or, eq_self, at0, at1, at2, at3, at4, D.str.injEq, D.int.injEq, D.bl.injEq, D.tup.injEq, D.lst.injEq, List.cons.injEq, len_app]
  refine ⟨by omega, (a, b, c), ⟨rfl, rfl, rfl⟩, ?_⟩
  refine str_eq ?_
  rw [pty_tl]
  simp only [tl_app, prtx, ety_tl]
def fsLT (n : Nat) : FS where
  pre := fun ds => ∃ p : Pl, ds = [p.D] ∧ p.Ok ∧ p.cnt ≤ n ∧ n ≤ 30
  post := fun ds d => ∃ p : Pl, ds = [p.D] ∧ ∃ s, d = .str s ∧ tl s = p.tx
theorem fsLT_fr (n : Nat) : (fsLT n).fr = false := rfl
theorem lt_post {n : Nat} {p : Pl} {d : D} (h : (fsLT n).post [p.D] d) : ∃ s, d = .str s ∧ tl s = p.tx := by
  obtain ⟨q, e, z⟩ := h
  rw [pl_inj (List.cons.inj e).1]
  exact z
theorem lits2 : (Str.ofString "heap").length = 4 ∧ (Str.ofString "index").length = 5 ∧ (Str.ofString "sort").length = 4 ∧ (Str.ofString "merge").length = 5 ∧ (Str.ofString "seek").length = 4 := by decide
theorem wl : tl (Str.ofString "heap(") = tl (Str.ofString "heap") ++ tl (Str.ofString "(") ∧ tl (Str.ofString "index(") = tl (Str.ofString "index") ++ tl (Str.ofString "(") ∧ tl (Str.ofString "sort(") = tl (Str.ofString "sort") ++ tl (Str.ofString "(") ∧ tl (Str.ofString "merge(") = tl (Str.ofString "merge") ++ tl (Str.ofString "(") ∧
    tl (Str.ofString "seek(") = tl (Str.ofString "seek") ++ tl (Str.ofString "(") ∧ tl (Str.ofString "distinct(") = tl (Str.ofString "distinct") ++ tl (Str.ofString "(") ∧ tl (Str.ofString "groups(") = tl (Str.ofString "groups") ++ tl (Str.ofString "(") ∧ tl (Str.ofString "first(") = tl (Str.ofString "first") ++ tl (Str.ofString "(") := by decide
theorem ok__law_text {f : Addr} {fd : FuncData} {f0 : Addr} {d0 : FuncData} {f1 : Addr} {d1 : FuncData} (F : Fun K "_law_text" "_law_text" s__law_text f fd) (T : Blt K mg) (b__law_text : Binds K fd ["_law_tree"] []) (g__law_text : mg "_law_text" = some (.ref f))
    (F__law_order_text : Fun K "_law_order_text" "_law_order_text" s__law_order_text f0 d0) (b__law_order_text : Binds K d0 ["_law_entries"] []) (g__law_order_text : mg "_law_order_text" = some (.ref f0)) (G__law_order_text : FnG P w K mg base CX0 2 f0 d0 ["_law_entries"] (spD K 1 fsLO))
    (F__law_pair_text : Fun K "_law_pair_text" "_law_pair_text" s__law_pair_text f1 d1) (b__law_pair_text : Binds K d1 ["_law_pair"] []) (g__law_pair_text : mg "_law_pair_text" = some (.ref f1)) (G__law_pair_text : FnG P w K mg base CX0 2 f1 d1 ["_law_pair"] (spD K 1 fsLP)) :
    ∀ n : Nat, FnG P w K mg base CX0 (n + 3) f fd ["_law_tree"] (spD K 1 (fsLT n)) := by
  have sc := sc__law_text
  have F__law_text := F
  intro n
  induction n with
  | zero => exact fn_void fun ds ⟨p, _, _, h, _⟩ => by have := p.cnt_pos; omega
  | succ n ih =>
    have G__law_text := ih
    refine okD (k := n + 3) F sc fun X hX hr gd => ?_
    obtain ⟨cdv, A, outer, s, H, E, rfl⟩ := hX
    refine ⟨_, (dss_cons (ds_if (dt_cmp (o_eq hr) r2_Eq (DE.dp (d_ix (dp_v 0) (DE.dp de_int) (fun _ _ => rfl))) (DE.dp de_str) (by first | exact nomark _ | rfl)) (dss_one (ds_set (i := 1) sc.nd rfl (.inl rfl) (d_ix (dp_v 0) (DE.dp de_int) (fun _ _ => rfl)))) (dss_one (ds_if (dt_cmp (o_eq hr) r2_Eq (DE.dp (d_ix (dp_v 0) (DE.dp de_int) (fun _ _ => rfl))) (DE.dp de_str) (by first | exact nomark _ | rfl)) (dss_one (ds_set (i := 1) sc.nd rfl (.inl rfl) (d_add (DE.dp (d_add (DE.dp (d_ix (dp_v 0) (DE.dp de_int) (fun _ _ => rfl))) (DE.dp de_str))) (DE.dp (d_ix (dp_v 0) (DE.dp de_int) (fun _ _ => rfl)))))) (dss_one (ds_if (dt_cmp (o_eq hr) r2_Eq (DE.dp (d_ix (dp_v 0) (DE.dp de_int) (fun _ _ => rfl))) (DE.dp de_str) (by first | exact nomark _ | rfl)) (dss_one (ds_set (i := 1) sc.nd rfl (.inl rfl) (d_add (DE.dp (d_add (DE.dp (de_call1 G__law_order_text (hr.mono (by omega)) gd (by rfl) g__law_order_text F__law_order_text.kp b__law_order_text (da_cons (d_ix (dp_v 0) (DE.dp de_int) (fun _ _ => rfl)) da_nil))) (DE.dp de_str))) (DE.dp (de_call1 G__law_text (hr.mono (by omega)) gd (by rfl) g__law_text F__law_text.kp b__law_text (da_cons (d_ix (dp_v 0) (DE.dp de_int) (fun _ _ => rfl)) da_nil)))))) (dss_one (ds_if (dt_cmp (o_eq hr) r2_Eq (DE.dp (d_ix (dp_v 0) (DE.dp de_int) (fun _ _ => rfl))) (DE.dp de_str) (by first | exact nomark _ | rfl)) (dss_cons (ds_set (i := 1) sc.nd rfl (.inl rfl) (de_m1 PySem.F.slot_str_join PySem.F.type_str_join mt_join m1_join (DE.dp de_str) (DE.dp (de_lc (own := [("_law_pair", 2)]) (by rfl) sc.nd (d_it (d_ix (dp_v 0) (DE.dp de_int) (fun _ _ => rfl))) (blkOk_by (own := [("_law_pair", 2)]) (N := ["_law_tree", "_law_parts", "_law_pair"]) (sc := defScope s__law_text) (by decide +kernel)) (fun _ _ _ _ _ => (dg_name (i := 2) sc.nd rfl (.inl rfl))) (fun _ _ _ _ _ => (de_call1 G__law_pair_text (hr.mono (by omega)) gd (by rfl) g__law_pair_text F__law_pair_text.kp b__law_pair_text (da_cons (de_v 2) da_nil)))))))
      (dss_one (ds_set (i := 1) sc.nd rfl (.inl rfl) (d_add (DE.dp (d_add (DE.dp (d_add (DE.dp (d_add (dp_v 1) (DE.dp de_str))) (DE.dp (de_call1 G__law_text (hr.mono (by omega)) gd (by rfl) g__law_text F__law_text.kp b__law_text (da_cons (d_ix (dp_v 0) (DE.dp de_int) (fun _ _ => rfl)) da_nil))))) (DE.dp de_str))) (DE.dp (de_call1 G__law_text (hr.mono (by omega)) gd (by rfl) g__law_text F__law_text.kp b__law_text (da_cons (d_ix (dp_v 0) (DE.dp de_int) (fun _ _ => rfl)) da_nil))))))) (dss_one (ds_if (dt_cmp (o_eq hr) r2_Eq (DE.dp (d_ix (dp_v 0) (DE.dp de_int) (fun _ _ => rfl))) (DE.dp de_str) (by first | exact nomark _ | rfl)) (dss_one (ds_set (i := 1) sc.nd rfl (.inl rfl) (d_add (DE.dp (d_add (DE.dp (de_call1 G__law_text (hr.mono (by omega)) gd (by rfl) g__law_text F__law_text.kp b__law_text (da_cons (d_ix (dp_v 0) (DE.dp de_int) (fun _ _ => rfl)) da_nil))) (DE.dp de_str))) (DE.dp (de_m1 PySem.F.slot_str_join PySem.F.type_str_join mt_join m1_join (DE.dp de_str) (DE.dp (de_lst (da_cons (d_ix (dp_v 0) (DE.dp de_int) (fun _ _ => rfl)) (da_cons (d_ix (dp_v 0) (DE.dp de_int) (fun _ _ => rfl)) (da_cons (de_callTy call_str_int cd_strI (by rfl) T.n_str (by decide +kernel) (dps_cons (DE.dp (d_ix (dp_v 0) (DE.dp de_int) (fun _ _ => rfl))) dps_nil)) da_nil)))))))))) (dss_one (ds_set (i := 1) sc.nd rfl (.inl rfl) (de_call1 G__law_text (hr.mono (by omega)) gd (by rfl) g__law_text F__law_text.kp b__law_text (da_cons (d_ix (dp_v 0) (DE.dp de_int) (fun _ _ => rfl)) da_nil)))))))))))))
      (dss_one (ds_ret (d_add (DE.dp (d_add (DE.dp (d_add (DE.dp (d_ix (dp_v 0) (DE.dp de_int) (fun _ _ => rfl))) (DE.dp de_str))) (dp_v 1))) (DE.dp de_str))))), fun ds l pre => ?_⟩
    obtain ⟨p, rfl, ok, cn, n30⟩ := pre
    obtain ⟨t1, t2, t3, t4, t5, t6, t7, t8, t9, t10, t11, t12, t13⟩ := lits
    have sl := sizeLine_eq
    obtain ⟨u1, u2, u3, u4, u5⟩ := lits2
    obtain ⟨w1, w2, w3, w4, w5, w6, w7, w8⟩ := wl
    cases p with
    | heap t =>
      have ok : Word t := ok
      have := ok.hi
      simp (decide := true) only [startD, tdSeq, tdNext, tdSet, tdSetO, tdDrop, tdRet, tdRetO, tdRetN, tdIfS, tdAsg, tdPar, tdBreak, tdCont, tdFor, tdV, tdC, tdOp, tdB, tdT, tdNotT, tdAndT, tdOrT, tdAnd, tdOr, tdNot, tdIf, tdNeg, tdTup, tdLst, tdNil, tdCons, tdStar, tdMut, tdM1, tdSl, tdoN, tdoS, tdFmt, tdJs, tdgN, tdgT, tdgNil, tdgCons, pdE, pdV, pdNil, pdCons, getL, peek, frz, onB, onL, onT, owL, unowned, wipeD, tiL, tiT, tiS, tiV, tiR1, tiR2, tiE, tiZ, ttY, tdLc, pAdd, pMul, pII, pII0, pSS, pEq2, pIn2, pOrd, pIx2, pSl2, pSlL, pCat, pIsN, pLen, pI1, pI2, pInt, pStrI, pList, pTuple, pAll, pAny, pRepr, pJoin, pmAppend, pmExtend, pmPopAt, List.map_cons, List.map_nil, List.cons_append, List.nil_append, List.append_nil, List.length_cons, List.length_nil, List.getElem?_cons_zero, List.getElem?_cons_succ, List.set_cons_zero, List.set_cons_succ, List.replicate_succ, List.replicate_zero, Function.comp, Nat.reduceAdd, Nat.reduceSub, Nat.reduceLT, true_and, and_true, if_true, if_false, Bool.false_eq_true, ite_true, ite_false, Bool.not_true, Bool.not_false, reduceCtorEq, eqOk_str, eqOk_int, eqOk_bl, eqD_str, eqD_int, eqD_bl, decide_eq_true_eq, false_implies, true_implies, Option.some.injEq, exists_eq_left, exists_eq_left', exists_eq', or_false, false_or, eq_self, at0, at1, at2, at3, at4, D.str.injEq, D.int.injEq, D.bl.injEq, D.tup.injEq, D.lst.injEq, List.cons.injEq, len_app, Pl.D, fsLT_fr]
      refine ⟨by omega, by omega, .heap t, rfl, _, rfl, ?_⟩
      simp only [tl_app, Pl.tx, w1, w2, w3, w4, w5, w6, w7, w8, true_and, List.nil_append, List.append_assoc]
    | index t i =>
      have ok : Word t ∧ Word i := ok
      have := ok.1.hi
      have := ok.2.hi
      simp (decide := true) only [startD, tdSeq, tdNext, tdSet, tdSetO, tdDrop, tdRet, tdRetO, tdRetN, tdIfS, tdAsg, tdPar, tdBreak, tdCont, tdFor, tdV, tdC, tdOp, tdB, tdT, tdNotT, tdAndT, tdOrT, tdAnd, tdOr, tdNot, tdIf, tdNeg, tdTup, tdLst, tdNil, tdCons, tdStar, tdMut, tdM1, tdSl, tdoN, tdoS, tdFmt, tdJs, tdgN, tdgT, tdgNil, tdgCons, pdE, pdV, pdNil, pdCons, getL, peek, frz, onB, onL, onT, owL, unowned, wipeD, tiL, tiT, tiS, tiV, tiR1, tiR2, tiE, tiZ, ttY, tdLc, pAdd, pMul, pII, pII0, pSS, pEq2, pIn2, pOrd, pIx2, pSl2, pSlL, pCat, pIsN, pLen, pI1, pI2, pInt, pStrI, pList, pTuple, pAll, pAny, pRepr, pJoin, pmAppend, pmExtend, pmPopAt, List.map_cons, List.map_nil, List.cons_append, List.nil_append, List.append_nil, List.length_cons, List.length_nil, List.getElem?_cons_zero, List.getElem?_cons_succ, List.set_cons_zero, List.set_cons_succ, List.replicate_succ, List.replicate_zero, Function.comp, Nat.reduceAdd, Nat.reduceSub, Nat.reduceLT, true_and, and_true, if_true, if_false, Bool.false_eq_true, ite_true, ite_false, Bool.not_true, Bool.not_false, reduceCtorEq, eqOk_str, eqOk_int, eqOk_bl, eqD_str, eqD_int, eqD_bl, decide_eq_true_eq, false_implies, true_implies, Option.some.injEq, exists_eq_left, exists_eq_left', exists_eq', or_false, false_or, eq_self, at0, at1, at2, at3, at4, D.str.injEq, D.int.injEq, D.bl.injEq, D.tup.injEq, D.lst.injEq, List.cons.injEq, len_app, Pl.D, fsLT_fr]
      refine ⟨by omega, by omega, by omega, by omega, .index t i, rfl, _, rfl, ?_⟩
      simp only [tl_app, Pl.tx, w1, w2, w3, w4, w5, w6, w7, w8, true_and, List.nil_append, List.append_assoc]
    | sort es p =>
      have ok : (es.length ≤ 8 ∧ ∀ e ∈ es, Ref e.1) ∧ p.Ok := ok
      have cn : p.cnt + 1 ≤ n + 1 := cn
      have l1 := estx_len ok.1.1 ok.1.2
      have l2 := Pl.tx_len ok.2
      simp (decide := true) only [startD, tdSeq, tdNext, tdSet, tdSetO, tdDrop, tdRet, tdRetO, tdRetN, tdIfS, tdAsg, tdPar, tdBreak, tdCont, tdFor, tdV, tdC, tdOp, tdB, tdT, tdNotT, tdAndT, tdOrT, tdAnd, tdOr, tdNot, tdIf, tdNeg, tdTup, tdLst, tdNil, tdCons, tdStar, tdMut, tdM1, tdSl, tdoN, tdoS, tdFmt, tdJs, tdgN, tdgT, tdgNil, tdgCons, pdE, pdV, pdNil, pdCons, getL, peek, frz, onB, onL, onT, owL, unowned, wipeD, tiL, tiT, tiS, tiV, tiR1, tiR2, tiE, tiZ, ttY, tdLc, pAdd, pMul, pII, pII0, pSS, pEq2, pIn2, pOrd, pIx2, pSl2, pSlL, pCat, pIsN, pLen, pI1, pI2, pInt, pStrI, pList, pTuple, pAll, pAny, pRepr, pJoin, pmAppend, pmExtend, pmPopAt, List.map_cons, List.map_nil, List.cons_append, List.nil_append, List.append_nil, List.length_cons, List.length_nil, List.getElem?_cons_zero, List.getElem?_cons_succ, List.set_cons_zero, List.set_cons_succ, List.replicate_succ, List.replicate_zero, Function.comp, Nat.reduceAdd, Nat.reduceSub, Nat.reduceLT, true_and, and_true, if_true, if_false, Bool.false_eq_true, ite_true, ite_false, Bool.not_true, Bool.not_false, reduceCtorEq, eqOk_str, eqOk_int, eqOk_bl, eqD_str, eqD_int, eqD_bl, decide_eq_true_eq, false_implies, true_implies, Option.some.injEq, exists_eq_left, exists_eq_left', exists_eq', or_false, false_or, eq_self, at0, at1, at2, at3, at4, D.str.injEq, D.int.injEq, D.bl.injEq, D.tup.injEq, D.lst.injEq, List.cons.injEq, len_app, Pl.D, fsLT_fr]
      refine ⟨⟨es, rfl, ok.1.1, ok.1.2⟩, fun d hd => ?_⟩
      obtain ⟨s1, rfl, e1⟩ := lo_post hd
      have e3 := tl_len s1
      rw [e1] at e3
      simp only [startD, tdSeq, tdNext, tdSet, tdSetO, tdDrop, tdRet, tdRetO, tdRetN, tdIfS, tdAsg, tdPar, tdBreak, tdCont, tdFor, tdV, tdC, tdOp, tdB, tdT, tdNotT, tdAndT, tdOrT, tdAnd, tdOr, tdNot, tdIf, tdNeg, tdTup, tdLst, tdNil, tdCons, tdStar, tdMut, tdM1, tdSl, tdoN, tdoS, tdFmt, tdJs, tdgN, tdgT, tdgNil, tdgCons, pdE, pdV, pdNil, pdCons, getL, peek, frz, onB, onL, onT, owL, unowned, wipeD, tiL, tiT, tiS, tiV, tiR1, tiR2, tiE, tiZ, ttY, tdLc, pAdd, pMul, pII, pII0, pSS, pEq2, pIn2, pOrd, pIx2, pSl2, pSlL, pCat, pIsN, pLen, pI1, pI2, pInt, pStrI, pList, pTuple, pAll, pAny, pRepr, pJoin, pmAppend, pmExtend, pmPopAt, List.map_cons, List.map_nil, List.cons_append, List.nil_append, List.append_nil, List.length_cons, List.length_nil, List.getElem?_cons_zero, List.getElem?_cons_succ, List.set_cons_zero, List.set_cons_succ, List.replicate_succ, List.replicate_zero, Function.comp, Nat.reduceAdd, Nat.reduceSub, Nat.reduceLT, true_and, and_true, if_true, if_false, Bool.false_eq_true, ite_true, ite_false, Bool.not_true, Bool.not_false, reduceCtorEq, eqOk_str, eqOk_int, eqOk_bl, eqD_str, eqD_int, eqD_bl, decide_eq_true_eq, false_implies, true_implies, Option.some.injEq, exists_eq_left, exists_eq_left', exists_eq', or_false, false_or, eq_self, at0, at1, at2, at3, at4, D.str.injEq, D.int.injEq, D.bl.injEq, D.tup.injEq, D.lst.injEq, List.cons.injEq, len_app]
      refine ⟨by omega, ⟨p, rfl, ok.2, by omega, by omega⟩, fun d hd => ?_⟩
      obtain ⟨s2, rfl, e2⟩ := lt_post hd
      have e4 := tl_len s2
      rw [e2] at e4
      simp only [startD, tdSeq, tdNext, tdSet, tdSetO, tdDrop, tdRet, tdRetO, tdRetN, tdIfS, tdAsg, tdPar, tdBreak, tdCont, tdFor, tdV, tdC, tdOp, tdB, tdT, tdNotT, tdAndT, tdOrT, tdAnd, tdOr, tdNot, tdIf, tdNeg, tdTup, tdLst, tdNil, tdCons, tdStar, tdMut, tdM1, tdSl, tdoN, tdoS, tdFmt, tdJs, tdgN, tdgT, tdgNil, tdgCons, pdE, pdV, pdNil, pdCons, getL, peek, frz, onB, onL, onT, owL, unowned, wipeD, tiL, tiT, tiS, tiV, tiR1, tiR2, tiE, tiZ, ttY, tdLc, pAdd, pMul, pII, pII0, pSS, pEq2, pIn2, pOrd, pIx2, pSl2, pSlL, pCat, pIsN, pLen, pI1, pI2, pInt, pStrI, pList, pTuple, pAll, pAny, pRepr, pJoin, pmAppend, pmExtend, pmPopAt, List.map_cons, List.map_nil, List.cons_append, List.nil_append, List.append_nil, List.length_cons, List.length_nil, List.getElem?_cons_zero, List.getElem?_cons_succ, List.set_cons_zero, List.set_cons_succ, List.replicate_succ, List.replicate_zero, Function.comp, Nat.reduceAdd, Nat.reduceSub, Nat.reduceLT, true_and, and_true, if_true, if_false, Bool.false_eq_true, ite_true, ite_false, Bool.not_true, Bool.not_false, reduceCtorEq, eqOk_str, eqOk_int, eqOk_bl, eqD_str, eqD_int, eqD_bl, decide_eq_true_eq, false_implies, true_implies, Option.some.injEq, exists_eq_left, exists_eq_left', exists_eq', or_false, false_or, eq_self, at0, at1, at2, at3, at4, D.str.injEq, D.int.injEq, D.bl.injEq, D.tup.injEq, D.lst.injEq, List.cons.injEq, len_app]
      refine ⟨by omega, by omega, by omega, .sort es p, rfl, _, rfl, ?_⟩
      simp only [tl_app, Pl.tx, w1, w2, w3, w4, w5, w6, w7, w8, e1, e2, List.nil_append, List.append_assoc]
    | merge ps p q =>
      have ok : (ps ≠ [] ∧ ps.length ≤ 3 ∧ ∀ e ∈ ps, Ref e.1 ∧ Ref e.2.1) ∧ p.Ok ∧ q.Ok := ok
      have cn : p.cnt + q.cnt + 1 ≤ n + 1 := cn
      have l1 := prstx_len ok.1.2.1 ok.1.2.2
      have l2 := Pl.tx_len ok.2.1
      have l3 := Pl.tx_len ok.2.2
      have e1 := prs_end ps
      have e3 := tl_len (Txt.join ", " (ps.map pty))
      rw [e1] at e3
      simp (decide := true) only [startD, tdSeq, tdNext, tdSet, tdSetO, tdDrop, tdRet, tdRetO, tdRetN, tdIfS, tdAsg, tdPar, tdBreak, tdCont, tdFor, tdV, tdC, tdOp, tdB, tdT, tdNotT, tdAndT, tdOrT, tdAnd, tdOr, tdNot, tdIf, tdNeg, tdTup, tdLst, tdNil, tdCons, tdStar, tdMut, tdM1, tdSl, tdoN, tdoS, tdFmt, tdJs, tdgN, tdgT, tdgNil, tdgCons, pdE, pdV, pdNil, pdCons, getL, peek, frz, onB, onL, onT, owL, unowned, wipeD, tiL, tiT, tiS, tiV, tiR1, tiR2, tiE, tiZ, ttY, tdLc, pAdd, pMul, pII, pII0, pSS, pEq2, pIn2, pOrd, pIx2, pSl2, pSlL, pCat, pIsN, pLen, pI1, pI2, pInt, pStrI, pList, pTuple, pAll, pAny, pRepr, pJoin, pmAppend, pmExtend, pmPopAt, List.map_cons, List.map_nil, List.cons_append, List.nil_append, List.append_nil, List.length_cons, List.length_nil, List.getElem?_cons_zero, List.getElem?_cons_succ, List.set_cons_zero, List.set_cons_succ, List.replicate_succ, List.replicate_zero, Function.comp, Nat.reduceAdd, Nat.reduceSub, Nat.reduceLT, true_and, and_true, if_true, if_false, Bool.false_eq_true, ite_true, ite_false, Bool.not_true, Bool.not_false, reduceCtorEq, eqOk_str, eqOk_int, eqOk_bl, eqD_str, eqD_int, eqD_bl, decide_eq_true_eq, false_implies, true_implies, Option.some.injEq, exists_eq_left, exists_eq_left', exists_eq', or_false, false_or, eq_self, at0, at1, at2, at3, at4, D.str.injEq, D.int.injEq, D.bl.injEq, D.tup.injEq, D.lst.injEq, List.cons.injEq, len_app, Pl.D, fsLT_fr]
      have jo : joinOk ", " (ps.map pty) := join_ok (b := 60) (n := 3) (fun p m => by have := pty_len p; have := (ok.1.2.2 p m).1.len; have := (ok.1.2.2 p m).2.len; omega) ok.1.2.1 (by decide)
      refine ⟨fun i acc => acc = (ps.take i).map fun p => D.str (pty p), rfl, fun i d acc e wi => ?_, fun acc wi => ?_⟩
      · obtain ⟨r, hr, rfl⟩ := get_map e
        subst wi
        have rr := ok.1.2.2 r (List.mem_of_getElem? hr)
        refine ⟨⟨r, rfl, by have := rr.1.len; omega, by have := rr.2.len; omega⟩, fun d hd => ⟨by rw [List.length_map, List.length_take, sl]; have := ok.1.2.1; omega, ?_⟩⟩
        show _ = (ps.take (i + 1)).map fun p => D.str (pty p)
        rw [take_map hr, lp_post hd]
      · subst wi
        rw [List.length_map, take_all, isS_map, toS_map]
        generalize Txt.join (Str.ofString ", ") (ps.map pty) = z at e1 e3 ⊢
        refine ⟨rfl, jo, by omega, ⟨p, rfl, ok.2.1, by omega, by omega⟩, fun d hd => ?_⟩
        obtain ⟨s2, rfl, e2⟩ := lt_post hd
        have e4 := tl_len s2
        rw [e2] at e4
        simp only [startD, tdSeq, tdNext, tdSet, tdSetO, tdDrop, tdRet, tdRetO, tdRetN, tdIfS, tdAsg, tdPar, tdBreak, tdCont, tdFor, tdV, tdC, tdOp, tdB, tdT, tdNotT, tdAndT, tdOrT, tdAnd, tdOr, tdNot, tdIf, tdNeg, tdTup, tdLst, tdNil, tdCons, tdStar, tdMut, tdM1, tdSl, tdoN, tdoS, tdFmt, tdJs, tdgN, tdgT, tdgNil, tdgCons, pdE, pdV, pdNil, pdCons, getL, peek, frz, onB, onL, onT, owL, unowned, wipeD, tiL, tiT, tiS, tiV, tiR1, tiR2, tiE, tiZ, ttY, tdLc, pAdd, pMul, pII, pII0, pSS, pEq2, pIn2, pOrd, pIx2, pSl2, pSlL, pCat, pIsN, pLen, pI1, pI2, pInt, pStrI, pList, pTuple, pAll, pAny, pRepr, pJoin, pmAppend, pmExtend, pmPopAt, List.map_cons, List.map_nil, List.cons_append, List.nil_append, List.append_nil, List.length_cons, List.length_nil, List.getElem?_cons_zero, List.getElem?_cons_succ, List.set_cons_zero, List.set_cons_succ, List.replicate_succ, List.replicate_zero, Function.comp, Nat.reduceAdd, Nat.reduceSub, Nat.reduceLT, true_and, and_true, if_true, if_false, Bool.false_eq_true, ite_true, ite_false, Bool.not_true, Bool.not_false, reduceCtorEq, eqOk_str, eqOk_int, eqOk_bl, eqD_str, eqD_int, eqD_bl, decide_eq_true_eq, false_implies, true_implies, Option.some.injEq, exists_eq_left, exists_eq_left', exists_eq', or_false, false_or, eq_self, at0, at1, at2, at3, at4, D.str.injEq, D.int.injEq, D.bl.injEq, D.tup.injEq, D.lst.injEq, List.cons.injEq, len_app]
        refine ⟨by omega, by omega, ⟨q, rfl, ok.2.2, by omega, by omega⟩, fun d hd => ?_⟩
        obtain ⟨s3, rfl, e5⟩ := lt_post hd
        have e6 := tl_len s3
        rw [e5] at e6
        simp only [startD, tdSeq, tdNext, tdSet, tdSetO, tdDrop, tdRet, tdRetO, tdRetN, tdIfS, tdAsg, tdPar, tdBreak, tdCont, tdFor, tdV, tdC, tdOp, tdB, tdT, tdNotT, tdAndT, tdOrT, tdAnd, tdOr, tdNot, tdIf, tdNeg, tdTup, tdLst, tdNil, tdCons, tdStar, tdMut, tdM1, tdSl, tdoN, tdoS, tdFmt, tdJs, tdgN, tdgT, tdgNil, tdgCons, pdE, pdV, pdNil, pdCons, getL, peek, frz, onB, onL, onT, owL, unowned, wipeD, tiL, tiT, tiS, tiV, tiR1, tiR2, tiE, tiZ, ttY, tdLc, pAdd, pMul, pII, pII0, pSS, pEq2, pIn2, pOrd, pIx2, pSl2, pSlL, pCat, pIsN, pLen, pI1, pI2, pInt, pStrI, pList, pTuple, pAll, pAny, pRepr, pJoin, pmAppend, pmExtend, pmPopAt, List.map_cons, List.map_nil, List.cons_append, List.nil_append, List.append_nil, List.length_cons, List.length_nil, List.getElem?_cons_zero, List.getElem?_cons_succ, List.set_cons_zero, List.set_cons_succ, List.replicate_succ, List.replicate_zero, Function.comp, Nat.reduceAdd, Nat.reduceSub, Nat.reduceLT, true_and, and_true, if_true, if_false, Bool.false_eq_true, ite_true, ite_false, Bool.not_true, Bool.not_false, reduceCtorEq, eqOk_str, eqOk_int, eqOk_bl, eqD_str, eqD_int, eqD_bl, decide_eq_true_eq, false_implies, true_implies, Option.some.injEq, exists_eq_left, exists_eq_left', exists_eq', or_false, false_or, eq_self, at0, at1, at2, at3, at4, D.str.injEq, D.int.injEq, D.bl.injEq, D.tup.injEq, D.lst.injEq, List.cons.injEq, len_app]
        refine ⟨by omega, by omega, by omega, .merge ps p q, rfl, _, rfl, ?_⟩
        simp only [tl_app, Pl.tx, w1, w2, w3, w4, w5, w6, w7, w8, e1, e2, e5, List.nil_append, List.append_assoc]
    | seek p t i b =>
      have ok : p.Ok ∧ Word t ∧ Word i ∧ 1 ≤ b ∧ b ≤ 3 := ok
      have cn : p.cnt + 1 ≤ n + 1 := cn
      have l2 := Pl.tx_len ok.1
      have := ok.2.1.hi
      have := ok.2.2.1.hi
      have lb : b.natAbs.log2 < 1920 := PySem.Flt.log2_lt_of (by decide) (Nat.lt_of_lt_of_le (show b.natAbs < 2 ^ 2 by omega) (Nat.pow_le_pow_right (by decide) (by decide)))
      have db := dig_len ok.2.2.2.1 ok.2.2.2.2
      rw [tl_len] at db
      simp (decide := true) only [startD, tdSeq, tdNext, tdSet, tdSetO, tdDrop, tdRet, tdRetO, tdRetN, tdIfS, tdAsg, tdPar, tdBreak, tdCont, tdFor, tdV, tdC, tdOp, tdB, tdT, tdNotT, tdAndT, tdOrT, tdAnd, tdOr, tdNot, tdIf, tdNeg, tdTup, tdLst, tdNil, tdCons, tdStar, tdMut, tdM1, tdSl, tdoN, tdoS, tdFmt, tdJs, tdgN, tdgT, tdgNil, tdgCons, pdE, pdV, pdNil, pdCons, getL, peek, frz, onB, onL, onT, owL, unowned, wipeD, tiL, tiT, tiS, tiV, tiR1, tiR2, tiE, tiZ, ttY, tdLc, pAdd, pMul, pII, pII0, pSS, pEq2, pIn2, pOrd, pIx2, pSl2, pSlL, pCat, pIsN, pLen, pI1, pI2, pInt, pStrI, pList, pTuple, pAll, pAny, pRepr, pJoin, pmAppend, pmExtend, pmPopAt, List.map_cons, List.map_nil, List.cons_append, List.nil_append, List.append_nil, List.length_cons, List.length_nil, List.getElem?_cons_zero, List.getElem?_cons_succ, List.set_cons_zero, List.set_cons_succ, List.replicate_succ, List.replicate_zero, Function.comp, Nat.reduceAdd, Nat.reduceSub, Nat.reduceLT, true_and, and_true, if_true, if_false, Bool.false_eq_true, ite_true, ite_false, Bool.not_true, Bool.not_false, reduceCtorEq, eqOk_str, eqOk_int, eqOk_bl, eqD_str, eqD_int, eqD_bl, decide_eq_true_eq, false_implies, true_implies, Option.some.injEq, exists_eq_left, exists_eq_left', exists_eq', or_false, false_or, eq_self, at0, at1, at2, at3, at4, D.str.injEq, D.int.injEq, D.bl.injEq, D.tup.injEq, D.lst.injEq, List.cons.injEq, len_app, Pl.D, fsLT_fr, D.isS, D.toS, List.all_cons, List.all_nil, Bool.and_self]
      refine ⟨⟨p, rfl, ok.1, by omega, by omega⟩, fun d hd => ?_⟩
      obtain ⟨s2, rfl, e2⟩ := lt_post hd
      have e4 := tl_len s2
      rw [e2] at e4
      simp only [startD, tdSeq, tdNext, tdSet, tdSetO, tdDrop, tdRet, tdRetO, tdRetN, tdIfS, tdAsg, tdPar, tdBreak, tdCont, tdFor, tdV, tdC, tdOp, tdB, tdT, tdNotT, tdAndT, tdOrT, tdAnd, tdOr, tdNot, tdIf, tdNeg, tdTup, tdLst, tdNil, tdCons, tdStar, tdMut, tdM1, tdSl, tdoN, tdoS, tdFmt, tdJs, tdgN, tdgT, tdgNil, tdgCons, pdE, pdV, pdNil, pdCons, getL, peek, frz, onB, onL, onT, owL, unowned, wipeD, tiL, tiT, tiS, tiV, tiR1, tiR2, tiE, tiZ, ttY, tdLc, pAdd, pMul, pII, pII0, pSS, pEq2, pIn2, pOrd, pIx2, pSl2, pSlL, pCat, pIsN, pLen, pI1, pI2, pInt, pStrI, pList, pTuple, pAll, pAny, pRepr, pJoin, pmAppend, pmExtend, pmPopAt, List.map_cons, List.map_nil, List.cons_append, List.nil_append, List.append_nil, List.length_cons, List.length_nil, List.getElem?_cons_zero, List.getElem?_cons_succ, List.set_cons_zero, List.set_cons_succ, List.replicate_succ, List.replicate_zero, Function.comp, Nat.reduceAdd, Nat.reduceSub, Nat.reduceLT, true_and, and_true, if_true, if_false, Bool.false_eq_true, ite_true, ite_false, Bool.not_true, Bool.not_false, reduceCtorEq, eqOk_str, eqOk_int, eqOk_bl, eqD_str, eqD_int, eqD_bl, decide_eq_true_eq, false_implies, true_implies, Option.some.injEq, exists_eq_left, exists_eq_left', exists_eq', or_false, false_or, eq_self, at0, at1, at2, at3, at4, D.str.injEq, D.int.injEq, D.bl.injEq, D.tup.injEq, D.lst.injEq, List.cons.injEq, len_app]
      have ej : tl (Txt.join (Str.ofString ", ") [t, i, Str.ofString (toString b)]) = tl t ++ (tl (Str.ofString ", ") ++ (tl i ++ (tl (Str.ofString ", ") ++ tl (Str.ofString (toString b))))) := by
        rw [tl_joined]
        rfl
      have jl := tl_len (Txt.join (Str.ofString ", ") [t, i, Str.ofString (toString b)])
      rw [ej] at jl
      simp only [List.length_append, tl_len] at jl
      have jo : joinOk (Str.ofString ", ") [t, i, Str.ofString (toString b)] := by
        show t.length + (i.length + ((Str.ofString (toString b)).length + 0)) + 3 * (Str.ofString ", ").length ≤ 16777216
        omega
      generalize Txt.join (Str.ofString ", ") [t, i, Str.ofString (toString b)] = z at ej jl ⊢
      refine ⟨by omega, lb, jo, by omega, by omega, by omega, .seek p t i b, rfl, _, rfl, ?_⟩
      simp only [tl_app, Pl.tx, w1, w2, w3, w4, w5, w6, w7, w8, e2, ej, List.nil_append, List.append_assoc]
    | dist p =>
      have ok : p.Ok := ok
      have cn : p.cnt + 1 ≤ n + 1 := cn
      have l2 := Pl.tx_len ok
      simp (decide := true) only [startD, tdSeq, tdNext, tdSet, tdSetO, tdDrop, tdRet, tdRetO, tdRetN, tdIfS, tdAsg, tdPar, tdBreak, tdCont, tdFor, tdV, tdC, tdOp, tdB, tdT, tdNotT, tdAndT, tdOrT, tdAnd, tdOr, tdNot, tdIf, tdNeg, tdTup, tdLst, tdNil, tdCons, tdStar, tdMut, tdM1, tdSl, tdoN, tdoS, tdFmt, tdJs, tdgN, tdgT, tdgNil, tdgCons, pdE, pdV, pdNil, pdCons, getL, peek, frz, onB, onL, onT, owL, unowned, wipeD, tiL, tiT, tiS, tiV, tiR1, tiR2, tiE, tiZ, ttY, tdLc, pAdd, pMul, pII, pII0, pSS, pEq2, pIn2, pOrd, pIx2, pSl2, pSlL, pCat, pIsN, pLen, pI1, pI2, pInt, pStrI, pList, pTuple, pAll, pAny, pRepr, pJoin, pmAppend, pmExtend, pmPopAt, List.map_cons, List.map_nil, List.cons_append, List.nil_append, List.append_nil, List.length_cons, List.length_nil, List.getElem?_cons_zero, List.getElem?_cons_succ, List.set_cons_zero, List.set_cons_succ, List.replicate_succ, List.replicate_zero, Function.comp, Nat.reduceAdd, Nat.reduceSub, Nat.reduceLT, true_and, and_true, if_true, if_false, Bool.false_eq_true, ite_true, ite_false, Bool.not_true, Bool.not_false, reduceCtorEq, eqOk_str, eqOk_int, eqOk_bl, eqD_str, eqD_int, eqD_bl, decide_eq_true_eq, false_implies, true_implies, Option.some.injEq, exists_eq_left, exists_eq_left', exists_eq', or_false, false_or, eq_self, at0, at1, at2, at3, at4, D.str.injEq, D.int.injEq, D.bl.injEq, D.tup.injEq, D.lst.injEq, List.cons.injEq, len_app, Pl.D, fsLT_fr]
      refine ⟨⟨p, rfl, ok, by omega, by omega⟩, fun d hd => ?_⟩
      obtain ⟨s2, rfl, e2⟩ := lt_post hd
      have e4 := tl_len s2
      rw [e2] at e4
      simp only [startD, tdSeq, tdNext, tdSet, tdSetO, tdDrop, tdRet, tdRetO, tdRetN, tdIfS, tdAsg, tdPar, tdBreak, tdCont, tdFor, tdV, tdC, tdOp, tdB, tdT, tdNotT, tdAndT, tdOrT, tdAnd, tdOr, tdNot, tdIf, tdNeg, tdTup, tdLst, tdNil, tdCons, tdStar, tdMut, tdM1, tdSl, tdoN, tdoS, tdFmt, tdJs, tdgN, tdgT, tdgNil, tdgCons, pdE, pdV, pdNil, pdCons, getL, peek, frz, onB, onL, onT, owL, unowned, wipeD, tiL, tiT, tiS, tiV, tiR1, tiR2, tiE, tiZ, ttY, tdLc, pAdd, pMul, pII, pII0, pSS, pEq2, pIn2, pOrd, pIx2, pSl2, pSlL, pCat, pIsN, pLen, pI1, pI2, pInt, pStrI, pList, pTuple, pAll, pAny, pRepr, pJoin, pmAppend, pmExtend, pmPopAt, List.map_cons, List.map_nil, List.cons_append, List.nil_append, List.append_nil, List.length_cons, List.length_nil, List.getElem?_cons_zero, List.getElem?_cons_succ, List.set_cons_zero, List.set_cons_succ, List.replicate_succ, List.replicate_zero, Function.comp, Nat.reduceAdd, Nat.reduceSub, Nat.reduceLT, true_and, and_true, if_true, if_false, Bool.false_eq_true, ite_true, ite_false, Bool.not_true, Bool.not_false, reduceCtorEq, eqOk_str, eqOk_int, eqOk_bl, eqD_str, eqD_int, eqD_bl, decide_eq_true_eq, false_implies, true_implies, Option.some.injEq, exists_eq_left, exists_eq_left', exists_eq', or_false, false_or, eq_self, at0, at1, at2, at3, at4, D.str.injEq, D.int.injEq, D.bl.injEq, D.tup.injEq, D.lst.injEq, List.cons.injEq, len_app]
      refine ⟨by omega, by omega, .dist p, rfl, _, rfl, ?_⟩
      simp only [tl_app, Pl.tx, w1, w2, w3, w4, w5, w6, w7, w8, e2, List.nil_append, List.append_assoc]
    | grps p =>
      have ok : p.Ok := ok
      have cn : p.cnt + 1 ≤ n + 1 := cn
      have l2 := Pl.tx_len ok
      simp (decide := true) only [startD, tdSeq, tdNext, tdSet, tdSetO, tdDrop, tdRet, tdRetO, tdRetN, tdIfS, tdAsg, tdPar, tdBreak, tdCont, tdFor, tdV, tdC, tdOp, tdB, tdT, tdNotT, tdAndT, tdOrT, tdAnd, tdOr, tdNot, tdIf, tdNeg, tdTup, tdLst, tdNil, tdCons, tdStar, tdMut, tdM1, tdSl, tdoN, tdoS, tdFmt, tdJs, tdgN, tdgT, tdgNil, tdgCons, pdE, pdV, pdNil, pdCons, getL, peek, frz, onB, onL, onT, owL, unowned, wipeD, tiL, tiT, tiS, tiV, tiR1, tiR2, tiE, tiZ, ttY, tdLc, pAdd, pMul, pII, pII0, pSS, pEq2, pIn2, pOrd, pIx2, pSl2, pSlL, pCat, pIsN, pLen, pI1, pI2, pInt, pStrI, pList, pTuple, pAll, pAny, pRepr, pJoin, pmAppend, pmExtend, pmPopAt, List.map_cons, List.map_nil, List.cons_append, List.nil_append, List.append_nil, List.length_cons, List.length_nil, List.getElem?_cons_zero, List.getElem?_cons_succ, List.set_cons_zero, List.set_cons_succ, List.replicate_succ, List.replicate_zero, Function.comp, Nat.reduceAdd, Nat.reduceSub, Nat.reduceLT, true_and, and_true, if_true, if_false, Bool.false_eq_true, ite_true, ite_false, Bool.not_true, Bool.not_false, reduceCtorEq, eqOk_str, eqOk_int, eqOk_bl, eqD_str, eqD_int, eqD_bl, decide_eq_true_eq, false_implies, true_implies, Option.some.injEq, exists_eq_left, exists_eq_left', exists_eq', or_false, false_or, eq_self, at0, at1, at2, at3, at4, D.str.injEq, D.int.injEq, D.bl.injEq, D.tup.injEq, D.lst.injEq, List.cons.injEq, len_app, Pl.D, fsLT_fr]
      refine ⟨⟨p, rfl, ok, by omega, by omega⟩, fun d hd => ?_⟩
      obtain ⟨s2, rfl, e2⟩ := lt_post hd
      have e4 := tl_len s2
      rw [e2] at e4
      simp only [startD, tdSeq, tdNext, tdSet, tdSetO, tdDrop, tdRet, tdRetO, tdRetN, tdIfS, tdAsg, tdPar, tdBreak, tdCont, tdFor, tdV, tdC, tdOp, tdB, tdT, tdNotT, tdAndT, tdOrT, tdAnd, tdOr, tdNot, tdIf, tdNeg, tdTup, tdLst, tdNil, tdCons, tdStar, tdMut, tdM1, tdSl, tdoN, tdoS, tdFmt, tdJs, tdgN, tdgT, tdgNil, tdgCons, pdE, pdV, pdNil, pdCons, getL, peek, frz, onB, onL, onT, owL, unowned, wipeD, tiL, tiT, tiS, tiV, tiR1, tiR2, tiE, tiZ, ttY, tdLc, pAdd, pMul, pII, pII0, pSS, pEq2, pIn2, pOrd, pIx2, pSl2, pSlL, pCat, pIsN, pLen, pI1, pI2, pInt, pStrI, pList, pTuple, pAll, pAny, pRepr, pJoin, pmAppend, pmExtend, pmPopAt, List.map_cons, List.map_nil, List.cons_append, List.nil_append, List.append_nil, List.length_cons, List.length_nil, List.getElem?_cons_zero, List.getElem?_cons_succ, List.set_cons_zero, List.set_cons_succ, List.replicate_succ, List.replicate_zero, Function.comp, Nat.reduceAdd, Nat.reduceSub, Nat.reduceLT, true_and, and_true, if_true, if_false, Bool.false_eq_true, ite_true, ite_false, Bool.not_true, Bool.not_false, reduceCtorEq, eqOk_str, eqOk_int, eqOk_bl, eqD_str, eqD_int, eqD_bl, decide_eq_true_eq, false_implies, true_implies, Option.some.injEq, exists_eq_left, exists_eq_left', exists_eq', or_false, false_or, eq_self, at0, at1, at2, at3, at4, D.str.injEq, D.int.injEq, D.bl.injEq, D.tup.injEq, D.lst.injEq, List.cons.injEq, len_app]
      refine ⟨by omega, by omega, .grps p, rfl, _, rfl, ?_⟩
      simp only [tl_app, Pl.tx, w1, w2, w3, w4, w5, w6, w7, w8, e2, List.nil_append, List.append_assoc]
    | fst p =>
      have ok : p.Ok := ok
      have cn : p.cnt + 1 ≤ n + 1 := cn
      have l2 := Pl.tx_len ok
      simp (decide := true) only [startD, tdSeq, tdNext, tdSet, tdSetO, tdDrop, tdRet, tdRetO, tdRetN, tdIfS, tdAsg, tdPar, tdBreak, tdCont, tdFor, tdV, tdC, tdOp, tdB, tdT, tdNotT, tdAndT, tdOrT, tdAnd, tdOr, tdNot, tdIf, tdNeg, tdTup, tdLst, tdNil, tdCons, tdStar, tdMut, tdM1, tdSl, tdoN, tdoS, tdFmt, tdJs, tdgN, tdgT, tdgNil, tdgCons, pdE, pdV, pdNil, pdCons, getL, peek, frz, onB, onL, onT, owL, unowned, wipeD, tiL, tiT, tiS, tiV, tiR1, tiR2, tiE, tiZ, ttY, tdLc, pAdd, pMul, pII, pII0, pSS, pEq2, pIn2, pOrd, pIx2, pSl2, pSlL, pCat, pIsN, pLen, pI1, pI2, pInt, pStrI, pList, pTuple, pAll, pAny, pRepr, pJoin, pmAppend, pmExtend, pmPopAt, List.map_cons, List.map_nil, List.cons_append, List.nil_append, List.append_nil, List.length_cons, List.length_nil, List.getElem?_cons_zero, List.getElem?_cons_succ, List.set_cons_zero, List.set_cons_succ, List.replicate_succ, List.replicate_zero, Function.comp, Nat.reduceAdd, Nat.reduceSub, Nat.reduceLT, true_and, and_true, if_true, if_false, Bool.false_eq_true, ite_true, ite_false, Bool.not_true, Bool.not_false, reduceCtorEq, eqOk_str, eqOk_int, eqOk_bl, eqD_str, eqD_int, eqD_bl, decide_eq_true_eq, false_implies, true_implies, Option.some.injEq, exists_eq_left, exists_eq_left', exists_eq', or_false, false_or, eq_self, at0, at1, at2, at3, at4, D.str.injEq, D.int.injEq, D.bl.injEq, D.tup.injEq, D.lst.injEq, List.cons.injEq, len_app, Pl.D, fsLT_fr]
      refine ⟨⟨p, rfl, ok, by omega, by omega⟩, fun d hd => ?_⟩
      obtain ⟨s2, rfl, e2⟩ := lt_post hd
      have e4 := tl_len s2
      rw [e2] at e4
      simp only [startD, tdSeq, tdNext, tdSet, tdSetO, tdDrop, tdRet, tdRetO, tdRetN, tdIfS, tdAsg, tdPar, tdBreak, tdCont, tdFor, tdV, tdC, tdOp, tdB, tdT, tdNotT, tdAndT, tdOrT, tdAnd, tdOr, tdNot, tdIf, tdNeg, tdTup, tdLst, tdNil, tdCons, tdStar, tdMut, tdM1, tdSl, tdoN, tdoS, tdFmt, tdJs, tdgN, tdgT, tdgNil, tdgCons, pdE, pdV, pdNil, pdCons, getL, peek, frz, onB, onL, onT, owL, unowned, wipeD, tiL, tiT, tiS, tiV, tiR1, tiR2, tiE, tiZ, ttY, tdLc, pAdd, pMul, pII, pII0, pSS, pEq2, pIn2, pOrd, pIx2, pSl2, pSlL, pCat, pIsN, pLen, pI1, pI2, pInt, pStrI, pList, pTuple, pAll, pAny, pRepr, pJoin, pmAppend, pmExtend, pmPopAt, List.map_cons, List.map_nil, List.cons_append, List.nil_append, List.append_nil, List.length_cons, List.length_nil, List.getElem?_cons_zero, List.getElem?_cons_succ, List.set_cons_zero, List.set_cons_succ, List.replicate_succ, List.replicate_zero, Function.comp, Nat.reduceAdd, Nat.reduceSub, Nat.reduceLT, true_and, and_true, if_true, if_false, Bool.false_eq_true, ite_true, ite_false, Bool.not_true, Bool.not_false, reduceCtorEq, eqOk_str, eqOk_int, eqOk_bl, eqD_str, eqD_int, eqD_bl, decide_eq_true_eq, false_implies, true_implies, Option.some.injEq, exists_eq_left, exists_eq_left', exists_eq', or_false, false_or, eq_self, at0, at1, at2, at3, at4, D.str.injEq, D.int.injEq, D.bl.injEq, D.tup.injEq, D.lst.injEq, List.cons.injEq, len_app]
      refine ⟨by omega, by omega, .fst p, rfl, _, rfl, ?_⟩
      simp only [tl_app, Pl.tx, w1, w2, w3, w4, w5, w6, w7, w8, e2, List.nil_append, List.append_assoc]
end
end K96


set_option Elab.async false
set_option linter.all false
set_option maxRecDepth 100000
set_option maxHeartbeats 8000000
namespace K96
open PySem PySem.Spec L2 PSG PSS DL TL
open PyProof.Rows (IntsAre AllBare)

abbrev s__law_choice : Stmt := topS 12
theorem sc__law_choice : FnScope ["_law_pot_here", "_law_options"] ["_law_pot_here", "_law_options"] (defScope s__law_choice) := ⟨rfl, rfl, rfl, by decide +kernel, rfl, by decide +kernel, by decide +kernel⟩
abbrev s__law_name : Stmt := topS 13
theorem sc__law_name : FnScope ["_law_pot_here", "_law_taken", "_law_letters", "_law_word", "_law_k", "_law_letter"] ["_law_pot_here", "_law_taken"] (defScope s__law_name) := ⟨rfl, rfl, rfl, by decide +kernel, rfl, by decide +kernel, by decide +kernel⟩
abbrev s__law_names : Stmt := topS 14
theorem sc__law_names : FnScope ["_law_pot_here", "_law_many", "_law_listed", "_law_k"] ["_law_pot_here", "_law_many"] (defScope s__law_names) := ⟨rfl, rfl, rfl, by decide +kernel, rfl, by decide +kernel, by decide +kernel⟩
abbrev s__law_shuffled : Stmt := topS 15
theorem sc__law_shuffled : FnScope ["_law_pot_here", "_law_some", "_law_left", "_law_mixed", "_law_one"] ["_law_pot_here", "_law_some"] (defScope s__law_shuffled) := ⟨rfl, rfl, rfl, by decide +kernel, rfl, by decide +kernel, by decide +kernel⟩
section
variable {P : Program} {w : World} {K : PySem.W.Frag} {mg : Str → Option Value} {base : Heap}
def fsChoice : FS where
  pre := fun ds => match ds with
    | [.pot, .lst xs] => 1 ≤ xs.length ∧ xs.length ≤ 1000
    | _ => False
  post := fun ds d => match ds with
    | [_, .lst xs] => d ∈ xs
    | _ => False
theorem ok__law_choice {f : Addr} {fd : FuncData} {f0 : Addr} {d0 : FuncData} (F : Fun K "_law_choice" "_law_choice" s__law_choice f fd) (T : Blt K mg)
    (F__law_draw : Fun K "_law_draw" "_law_draw" s__law_draw f0 d0) (b__law_draw : Binds K d0 ["_law_pot_here", "_law_many"] []) (g__law_draw : mg "_law_draw" = some (.ref f0)) (G__law_draw : FnG P w K mg base CX0 1 f0 d0 ["_law_pot_here", "_law_many"] (spD K 2 fsDraw)) : FnG P w K mg base CX0 2 f fd ["_law_pot_here", "_law_options"] (spD K 2 fsChoice) := by
  have sc := sc__law_choice
  refine okD (k := 1) F sc fun X hX hr gd => ?_
  obtain ⟨cdv, A, outer, s, H, E, rfl⟩ := hX
  refine ⟨_, (dss_one (ds_ret (d_ix (dp_v 1) (DE.dp (de_call1 G__law_draw (hr.mono (by omega)) gd (by rfl) g__law_draw F__law_draw.kp b__law_draw (da_cons (de_v 0) (da_cons (de_callB call_len cd_len (by rfl) T.n_len PySem.boot_len (dps_cons (dp_v 1) dps_nil)) da_nil)))) (fun _ _ => rfl)))), fun ds l pre => ?_⟩
  match ds, l, pre with
  | [.pot, .lst xs], _, pre =>
    simp only [fsChoice] at pre ⊢
    simp only [startD, tdSeq, tdNext, tdSet, tdSetO, tdDrop, tdRet, tdRetO, tdRetN, tdIfS, tdAsg, tdPar, tdBreak, tdCont, tdFor, tdV, tdC, tdOp, tdB, tdT, tdNotT, tdAndT, tdOrT, tdAnd, tdOr, tdNot, tdIf, tdNeg, tdTup, tdLst, tdNil, tdCons, tdStar, tdMut, tdM1, tdSl, tdoN, tdoS, tdFmt, tdJs, tdgN, tdgT, tdgNil, tdgCons, pdE, pdV, pdNil, pdCons, getL, peek, frz, onB, onL, onT, owL, unowned, wipeD, tiL, tiT, tiS, tiV, tiR1, tiR2, tiE, tiZ, ttY, tdLc, pAdd, pMul, pII, pII0, pSS, pEq2, pIn2, pOrd, pIx2, pSl2, pSlL, pCat, pIsN, pLen, pI1, pI2, pInt, pStrI, pList, pTuple, pAll, pAny, pRepr, pJoin, pmAppend, pmExtend, pmPopAt, List.map_cons, List.map_nil, List.cons_append, List.nil_append, List.append_nil, List.length_cons, List.length_nil, List.getElem?_cons_zero, List.getElem?_cons_succ, List.set_cons_zero, List.set_cons_succ, List.replicate_succ, List.replicate_zero, Function.comp, Nat.reduceAdd, Nat.reduceSub, Nat.reduceLT, true_and, and_true, if_true, if_false, Bool.false_eq_true, ite_true, ite_false, Bool.not_true, Bool.not_false, reduceCtorEq, eqOk_str, eqOk_int, eqOk_bl, eqD_str, eqD_int, eqD_bl, decide_eq_true_eq, false_implies, true_implies, Option.some.injEq, exists_eq_left, exists_eq_left', exists_eq', or_false, false_or, eq_self, at0, at1, at2, at3, at4, D.str.injEq, D.int.injEq, D.bl.injEq, D.tup.injEq, D.lst.injEq, List.cons.injEq, Sl.fz.injEq, Sl.ow.injEq, fsDraw]
    refine ⟨⟨by omega, by omega⟩, ?_⟩
    rintro d ⟨k, rfl, h0, h1⟩
    obtain ⟨x, e, m⟩ := atI_lt (xs := xs) h0 h1
    exact ⟨x, e, m⟩
def az : Str := "abcdefghijklmnopqrstuvwxyz"
theorem az_at {k : Int} (h0 : 0 ≤ k) (h1 : k < 26) : ∃ c, atI (tl az) k = some c ∧ 97 ≤ c ∧ c ≤ 122 := by
  have e : (tl az).length = 26 := by decide
  obtain ⟨c, e, m⟩ := atI_lt (xs := tl az) h0 (by rw [e]; exact h1)
  have all : ∀ c ∈ tl az, 97 ≤ c ∧ c ≤ 122 := by decide
  exact ⟨c, e, all c m⟩
/-- a letter -/
def isAz (d : D) : Prop := ∃ c, d = .str ⟨#[c]⟩ ∧ 97 ≤ c ∧ c ≤ 122
theorem word_one {c : Nat} (h : 97 ≤ c ∧ c ≤ 122) : Word ⟨#[c]⟩ := ⟨fun x m => by rw [List.mem_singleton.mp m]; exact h, Nat.le_refl _, by show 1 ≤ 8; decide⟩
theorem azs_join : ∀ {xs : List D}, (∀ x ∈ xs, isAz x) → xs.all D.isS = true ∧ (∀ c ∈ tl (Txt.join Str.empty (xs.map D.toS)), 97 ≤ c ∧ c ≤ 122) ∧ (Txt.join Str.empty (xs.map D.toS)).length = xs.length ∧ ((xs.map D.toS).map (·.length)).sum = xs.length := by
  intro xs h
  have e : tl (Txt.join Str.empty (xs.map D.toS)) = ((xs.map D.toS).map tl).flatten := by
    rw [tl_joined]
    generalize (xs.map D.toS).map tl = l
    induction l with
    | nil => rfl
    | cons p r ih =>
      cases r with
      | nil => simp [joinL]
      | cons q r =>
        show p ++ ([] ++ joinL _ (q :: r)) = _
        rw [ih]
        simp
  have z : xs.all D.isS = true ∧ (∀ c ∈ ((xs.map D.toS).map tl).flatten, 97 ≤ c ∧ c ≤ 122) ∧ ((xs.map D.toS).map tl).flatten.length = xs.length ∧ ((xs.map D.toS).map (·.length)).sum = xs.length := by
    clear e
    induction xs with
    | nil => exact ⟨rfl, fun c m => by simp at m, rfl, rfl⟩
    | cons x r ih =>
      obtain ⟨c, rfl, hc⟩ := h x List.mem_cons_self
      obtain ⟨i1, i2, i3, i4⟩ := ih fun y m => h y (List.mem_cons_of_mem _ m)
      refine ⟨by rw [List.all_cons, i1]; rfl, fun y m => ?_, ?_, ?_⟩
      · rcases List.mem_append.mp (show y ∈ [c] ++ ((r.map D.toS).map tl).flatten from m) with m | m
        · rw [List.mem_singleton.mp m]
          exact hc
        · exact i2 y m
      · show ([c] ++ ((r.map D.toS).map tl).flatten).length = r.length + 1
        rw [List.length_append, i3]
        show 1 + r.length = _
        omega
      · show 1 + ((r.map D.toS).map (·.length)).sum = r.length + 1
        rw [i4]
        omega
  rw [← e] at z
  refine ⟨z.1, z.2.1, ?_, z.2.2.2⟩
  rw [← tl_len]
  exact z.2.2.1
def fsName : FS where
  pre := fun ds => ∃ ws : List Str, ds = [.pot, .lst (ws.map D.str)] ∧ ws.length ≤ 3 ∧ ∀ x ∈ ws, Word x
  post := fun _ d => ∃ x, d = .str x ∧ Word x
theorem fl__law_name : fsName.Flat := ⟨rfl, fun ds d ⟨x, e, _⟩ => by rw [e]; rfl⟩
theorem cut_word {x y : Str} (hx : Word x) (hy : ∀ c ∈ tl y, 97 ≤ c ∧ c ≤ 122) : Word (cutS (x ++ y) none (some 8)) := by
  have e := tl_cut_to (x ++ y) 8
  refine ⟨fun c m => ?_, ?_, ?_⟩
  · have m2 := cut_mem m
    rw [tl_app] at m2
    exact (List.mem_append.mp m2).elim (hx.az c) (hy c)
  · rw [← tl_len]
    show 1 ≤ (tl (cutS (x ++ y) none (some ((8 : Nat) : Int)))).length
    rw [e, List.length_take, tl_len, len_app]
    have := hx.lo
    omega
  · rw [← tl_len]
    show (tl (cutS (x ++ y) none (some ((8 : Nat) : Int)))).length ≤ 8
    rw [e, List.length_take]
    omega
theorem inV_map {w : Str} {ws : List Str} : (D.str w).flat = true ∧ (ws.map D.str).all D.flat = true := ⟨rfl, by rw [List.all_map, List.all_eq_true]; exact fun _ _ => rfl⟩
theorem inV_mem {w : Str} {ws : List Str} : inV (D.str w).v ((ws.map D.str).map D.v) = true ↔ w ∈ ws := by
  unfold inV
  rw [List.any_map, List.any_map, List.any_eq_true]
  constructor
  · rintro ⟨x, m, h⟩
    have e : x = w := by
      have z : (x == w) = true := h
      exact eq_of_beq z
    rw [← e]
    exact m
  · intro m
    exact ⟨w, m, by show (w == w) = true; exact beq_self_eq_true w⟩
/-- the letters, one by one -/
theorem ones_az : ones az = (tl az).map fun c => D.str ⟨#[c]⟩ := rfl
theorem mul_az {w : Str} {n : Int} (h : ∀ c ∈ tl w, 97 ≤ c ∧ c ≤ 122) : ∀ c ∈ tl (Txt.mul w n), 97 ≤ c ∧ c ≤ 122 := by
  rw [tl_mul]
  intro c m
  obtain ⟨l, m1, m2⟩ := List.mem_flatten.mp m
  rw [List.eq_of_mem_replicate m1] at m2
  exact h c m2
theorem mul_len {w : Str} {n : Nat} : (Txt.mul w n).length = n * w.length := by
  rw [← tl_len, tl_mul]
  have e := tl_len w
  simp only [Int.toNat_natCast, List.length_flatten, List.map_replicate, List.sum_replicate_nat, e]
abbrev nameSt (ws : List Str) (w : Str) : DSt := [some (.fz .pot), some (.fz (.lst (ws.map D.str))), some (.fz (.str az)), some (.fz (.str w)), none, none]
theorem str1 {c d : Nat} : ((⟨#[c]⟩ : Str) = ⟨#[d]⟩) ↔ c = d := ⟨fun e => by cases e; rfl, fun e => by rw [e]⟩
theorem ws_empty {ws : List Str} (ok : ∀ x ∈ ws, Word x) : eqOk (.lst (ws.map D.str)) (.lst []) ∧ (eqD (.lst (ws.map D.str)) (.lst []) = true ↔ ws = []) := by
  have f : (D.lst (ws.map D.str)).fine = true := by
    unfold D.fine
    exact fines_map fun x m => (ok x m).ok
  have d : (D.lst (ws.map D.str)).dep ≤ 60 := by
    unfold D.dep
    have := deps_map (f := D.str) (n := 0) (xs := ws) fun x m => Nat.le_refl _
    omega
  refine ⟨eqOk_of f d rfl (by decide), ?_⟩
  rw [eqD_eq (by unfold D.nb; exact nbs_map fun _ _ => rfl) rfl, D.lst.injEq, List.map_eq_nil_iff]
theorem az_left {ws : List Str} (few : ws.length ≤ 3) : ∃ c ∈ tl az, (⟨#[c]⟩ : Str) ∉ ws := by
  refine Classical.byContradiction fun no => ?_
  have all : ∀ x ∈ (tl az).map (fun c => (⟨#[c]⟩ : Str)), x ∈ ws := fun x m => by
    obtain ⟨c, hc, rfl⟩ := List.mem_map.mp m
    exact Classical.byContradiction fun z => no ⟨c, hc, z⟩
  have nd : ((tl az).map (fun c => (⟨#[c]⟩ : Str))).Nodup := by decide +kernel
  have z := nodup_le _ _ nd all
  have e : ((tl az).map (fun c => (⟨#[c]⟩ : Str))).length = 26 := by decide
  omega
theorem az_rest {ws : List Str} (few : ws.length ≤ 3) {R : D → Prop} (hR : ∀ x, Word x → R (.str x)) : ∃ W : Nat → List D → Prop, W 0 [] ∧ (∀ (i : Nat) (d : D) (acc : List D), (ones az)[i]? = some d → W i acc →
    (d.flat = true ∧ (List.map D.str ws).all D.flat = true ∧ if (!inV d.v (List.map D.v (List.map D.str ws))) = true then acc.length < sizeLine ∧ W (i + 1) (acc ++ [d]) else W (i + 1) acc) ∨
      d.nice = true ∧ (D.lst (List.map D.str ws)).nice = true ∧ if (!(D.pys (List.map D.str ws)).any fun z => z.eqv d.py) = true then acc.length < sizeLine ∧ W (i + 1) (acc ++ [d]) else W (i + 1) acc) ∧
    ∀ acc : List D, W (ones az).length acc → ∃ d, atI acc 0 = some d ∧ R d := by
  have sl := sizeLine_eq
  have azl : (tl az).length = 26 := by decide
  have azc : ∀ c ∈ tl az, 97 ≤ c ∧ c ≤ 122 := by decide
  refine ⟨fun i acc => (∀ x ∈ acc, isAz x) ∧ acc.length ≤ i ∧ ∀ c ∈ (tl az).take i, (⟨#[c]⟩ : Str) ∉ ws → acc ≠ [], ⟨(fun x m => nomatch m), Nat.le_refl _, fun c m => by simp at m⟩, fun i d acc e ⟨g, l, h⟩ => .inl ?_, fun acc ⟨g, l, h⟩ => ?_⟩
  · rw [ones_az] at e
    obtain ⟨c, hc, rfl⟩ := get_map e
    have il : i < 26 := by
      have := (List.getElem?_eq_some_iff.mp hc).1
      omega
    refine ⟨rfl, (inV_map (w := ⟨#[c]⟩)).2, ?_⟩
    by_cases m : (⟨#[c]⟩ : Str) ∈ ws
    · rw [inV_mem.mpr m, if_neg (by decide)]
      refine ⟨g, by omega, fun c' m' n' => ?_⟩
      rw [List.take_add_one, hc] at m'
      rcases List.mem_append.mp m' with m' | m'
      · exact h c' m' n'
      · have e2 : c' = c := List.mem_singleton.mp m'
        rw [e2] at n'
        exact absurd m n'
    · have e1 : inV (D.str ⟨#[c]⟩).v ((ws.map D.str).map D.v) = false := Bool.eq_false_iff.mpr fun z => m (inV_mem.mp z)
      rw [e1, if_pos (by decide)]
      refine ⟨by omega, fun x mx => ?_, by rw [List.length_append]; exact Nat.succ_le_succ l, fun _ _ _ z => ?_⟩
      · rcases List.mem_append.mp mx with mx | mx
        · exact g x mx
        · rw [List.mem_singleton.mp mx]
          exact ⟨c, rfl, azc c (List.mem_of_getElem? hc)⟩
      · exact absurd (congrArg List.length z) (by rw [List.length_append]; exact Nat.succ_ne_zero _)
  · obtain ⟨c, mc, n⟩ := az_left few
    have e : (ones az).length = (tl az).length := by rw [ones_az, List.length_map]
    rw [e, List.take_length] at h
    have ne := h c mc n
    cases acc with
    | nil => exact absurd rfl ne
    | cons x r =>
      obtain ⟨c', rfl, hc'⟩ := g x List.mem_cons_self
      exact ⟨_, at0, hR _ (word_one hc')⟩
theorem ok__law_name {f : Addr} {fd : FuncData} {f0 : Addr} {d0 : FuncData} (F : Fun K "_law_name" "_law_name" s__law_name f fd) (T : Blt K mg)
    (F__law_draw : Fun K "_law_draw" "_law_draw" s__law_draw f0 d0) (b__law_draw : Binds K d0 ["_law_pot_here", "_law_many"] []) (g__law_draw : mg "_law_draw" = some (.ref f0)) (G__law_draw : FnG P w K mg base CX0 1 f0 d0 ["_law_pot_here", "_law_many"] (spD K 2 fsDraw)) : FnG P w K mg base CX0 2 f fd ["_law_pot_here", "_law_taken"] (spD K 2 fsName) := by
  have sc := sc__law_name
  refine okD (k := 1) F sc fun X hX hr gd => ?_
  obtain ⟨cdv, A, outer, s, H, E, rfl⟩ := hX
  refine ⟨_, (dss_cut (ds_set (i := 2) sc.nd rfl (.inr rfl) de_str)
      (dss_cut (ds_set (i := 3) sc.nd rfl (.inl rfl) (de_m1 PySem.F.slot_str_join PySem.F.type_str_join mt_join m1_join (DE.dp de_str) (DE.dp (de_lc (own := [("_law_k", 4)]) (by rfl) sc.nd (di_range1 (by rfl) T.n_range (da_cons (d_ix (DE.dp (de_lst (da_cons de_int (da_cons de_int (da_cons de_int (da_cons de_int da_nil)))))) (DE.dp (de_call1 G__law_draw (hr.mono (by omega)) gd (by rfl) g__law_draw F__law_draw.kp b__law_draw (da_cons (de_v 0) (da_cons de_int da_nil)))) (fun _ _ => rfl)) da_nil)) (blkOk_by (own := [("_law_k", 4)]) (N := ["_law_pot_here", "_law_taken", "_law_letters", "_law_word", "_law_k", "_law_letter"]) (sc := defScope s__law_name) (by decide +kernel)) (fun _ _ _ _ _ => (dg_name (i := 4) sc.nd rfl (.inl rfl))) (fun _ _ _ _ _ => (d_ix (dp_v 2) (DE.dp (de_call1 G__law_draw (hr.mono (by omega)) gd (by rfl) g__law_draw F__law_draw.kp b__law_draw (da_cons (de_v 0) (da_cons de_int da_nil)))) (fun _ _ => rfl)))))))
      (dss_cut (ds_if (DW.dt (dw_and (dt_cmp (o_ne hr) r2_Ne (dp_v 1) (DE.dp (de_lst da_nil)) (by first | exact nomark _ | rfl)) (dw_and1 (dt_cmp (o_eq hr) r2_Eq (DE.dp (de_call1 G__law_draw (hr.mono (by omega)) gd (by rfl) g__law_draw F__law_draw.kp b__law_draw (da_cons (de_v 0) (da_cons de_int da_nil)))) (DE.dp de_int) (by first | exact nomark _ | rfl))))) (dss_one (ds_set (i := 3) sc.nd rfl (.inl rfl) (d_sl (DE.dp (d_add (DE.dp (d_ix (dp_v 1) (DE.dp (de_neg de_int)) (fun _ _ => rfl))) (DE.dp (d_mul (dp_v 3) (DE.dp de_int))))) do_none (do_some de_int)))) dss_nil)
      (dss_cut (ds_if (DW.dt (dw_or (dt_cmp (o_in hr) r2_In (dp_v 3) (dp_v 1) (by first | exact nomark _ | rfl)) (dw_or1 (dt_cmp (o_eq hr) r2_Eq (dp_v 3) (DE.dp de_str) (by first | exact nomark _ | rfl))))) (dss_one (ds_set (i := 3) sc.nd rfl (.inl rfl) (d_ix (DE.dp (de_lcT (own := [("_law_letter", 5)]) (by rfl) sc.nd (di_v 2) (blkOk_by (own := [("_law_letter", 5)]) (N := ["_law_pot_here", "_law_taken", "_law_letters", "_law_word", "_law_k", "_law_letter"]) (sc := defScope s__law_name) (by decide +kernel)) (fun _ _ _ _ _ => (dg_name (i := 5) sc.nd rfl (.inl rfl))) (fun _ _ _ _ _ => (dt_cmp (o_nin hr) r2_NotIn (dp_v 5) (dp_v 1) (by first | exact nomark _ | rfl))) (fun _ _ _ _ _ => (de_v 5)))) (DE.dp de_int) (fun _ _ => rfl)))) dss_nil)
      (dss_one (ds_ret (de_v 3))))))), fun ds l pre => ?_⟩
  obtain ⟨ws, rfl, few, ok⟩ := pre
  have sl := sizeLine_eq
  refine ⟨fun δ => δ = [some (.fz .pot), some (.fz (.lst (ws.map D.str))), some (.fz (.str az)), none, none, none], ?_, ?_⟩
  · simp only [startD, tdSeq, tdNext, tdSet, tdSetO, tdDrop, tdRet, tdRetO, tdRetN, tdIfS, tdAsg, tdPar, tdBreak, tdCont, tdFor, tdV, tdC, tdOp, tdB, tdT, tdNotT, tdAndT, tdOrT, tdAnd, tdOr, tdNot, tdIf, tdNeg, tdTup, tdLst, tdNil, tdCons, tdStar, tdMut, tdM1, tdSl, tdoN, tdoS, tdFmt, tdJs, tdgN, tdgT, tdgNil, tdgCons, pdE, pdV, pdNil, pdCons, getL, peek, frz, onB, onL, onT, owL, unowned, wipeD, tiL, tiT, tiS, tiV, tiR1, tiR2, tiE, tiZ, ttY, tdLc, pAdd, pMul, pII, pII0, pSS, pEq2, pIn2, pOrd, pIx2, pSl2, pSlL, pCat, pIsN, pLen, pI1, pI2, pInt, pStrI, pList, pTuple, pAll, pAny, pRepr, pJoin, pmAppend, pmExtend, pmPopAt, List.map_cons, List.map_nil, List.cons_append, List.nil_append, List.append_nil, List.length_cons, List.length_nil, List.getElem?_cons_zero, List.getElem?_cons_succ, List.set_cons_zero, List.set_cons_succ, List.replicate_succ, List.replicate_zero, Function.comp, Nat.reduceAdd, Nat.reduceSub, Nat.reduceLT, true_and, and_true, if_true, if_false, Bool.false_eq_true, ite_true, ite_false, Bool.not_true, Bool.not_false, reduceCtorEq, eqOk_str, eqOk_int, eqOk_bl, eqD_str, eqD_int, eqD_bl, decide_eq_true_eq, false_implies, true_implies, Option.some.injEq, exists_eq_left, exists_eq_left', exists_eq', or_false, false_or, eq_self, at0, at1, at2, at3, at4, D.str.injEq, D.int.injEq, D.bl.injEq, D.tup.injEq, D.lst.injEq, List.cons.injEq, Sl.fz.injEq, Sl.ow.injEq]
    rfl
  rintro _ rfl
  refine ⟨fun δ => ∃ w, Word w ∧ δ = nameSt ws w, ?_, ?_⟩
  · simp (decide := true) only [startD, tdSeq, tdNext, tdSet, tdSetO, tdDrop, tdRet, tdRetO, tdRetN, tdIfS, tdAsg, tdPar, tdBreak, tdCont, tdFor, tdV, tdC, tdOp, tdB, tdT, tdNotT, tdAndT, tdOrT, tdAnd, tdOr, tdNot, tdIf, tdNeg, tdTup, tdLst, tdNil, tdCons, tdStar, tdMut, tdM1, tdSl, tdoN, tdoS, tdFmt, tdJs, tdgN, tdgT, tdgNil, tdgCons, pdE, pdV, pdNil, pdCons, getL, peek, frz, onB, onL, onT, owL, unowned, wipeD, tiL, tiT, tiS, tiV, tiR1, tiR2, tiE, tiZ, ttY, tdLc, pAdd, pMul, pII, pII0, pSS, pEq2, pIn2, pOrd, pIx2, pSl2, pSlL, pCat, pIsN, pLen, pI1, pI2, pInt, pStrI, pList, pTuple, pAll, pAny, pRepr, pJoin, pmAppend, pmExtend, pmPopAt, List.map_cons, List.map_nil, List.cons_append, List.nil_append, List.append_nil, List.length_cons, List.length_nil, List.getElem?_cons_zero, List.getElem?_cons_succ, List.set_cons_zero, List.set_cons_succ, List.replicate_succ, List.replicate_zero, Function.comp, Nat.reduceAdd, Nat.reduceSub, Nat.reduceLT, true_and, and_true, if_true, if_false, Bool.false_eq_true, ite_true, ite_false, Bool.not_true, Bool.not_false, reduceCtorEq, eqOk_str, eqOk_int, eqOk_bl, eqD_str, eqD_int, eqD_bl, decide_eq_true_eq, false_implies, true_implies, Option.some.injEq, exists_eq_left, exists_eq_left', exists_eq', or_false, false_or, eq_self, at0, at1, at2, at3, at4, D.str.injEq, D.int.injEq, D.bl.injEq, D.tup.injEq, D.lst.injEq, List.cons.injEq, Sl.fz.injEq, Sl.ow.injEq, fsDraw]
    rintro d ⟨k, rfl, h0, h1⟩
    have lenz : ∃ n : Nat, atI [D.int 1, D.int 1, D.int 2, D.int 8] k = some (.int n) ∧ 1 ≤ n ∧ n ≤ 8 := by
      have : k = 0 ∨ k = 1 ∨ k = 2 ∨ k = 3 := by omega
      rcases this with rfl | rfl | rfl | rfl
      · exact ⟨1, at0, by decide, by decide⟩
      · exact ⟨1, at1, by decide, by decide⟩
      · exact ⟨2, at2, by decide, by decide⟩
      · exact ⟨8, at3, by decide, by decide⟩
    obtain ⟨n, en, n1, n8⟩ := lenz
    refine ⟨_, en, ⟨by omega, by omega⟩, fun i acc => acc.length = i ∧ ∀ x ∈ acc, isAz x, ⟨rfl, fun x m => by cases m⟩, fun i d acc e wi => ?_, fun acc wi => ?_⟩
    · rintro d ⟨k, rfl, h0, h1⟩
      obtain ⟨c, ec, hc⟩ := az_at h0 h1
      have il := (List.getElem?_eq_some_iff.mp e).1
      unfold rg at il
      rw [List.length_map, List.length_range] at il
      refine ⟨by decide +kernel, c, ec, by rw [wi.1]; omega, by rw [List.length_append, wi.1]; rfl, fun x m => ?_⟩
      rcases List.mem_append.mp m with m | m
      · exact wi.2 x m
      · rw [List.mem_singleton.mp m]
        exact ⟨c, rfl, hc⟩
    · obtain ⟨l, g⟩ := wi
      unfold rg at l
      rw [List.length_map, List.length_range] at l
      obtain ⟨z1, z2, z3, z4⟩ := azs_join g
      refine ⟨z1, ?_, _, ⟨z2, by show 1 ≤ (Txt.join Str.empty _).length; rw [z3]; omega, by show (Txt.join Str.empty _).length ≤ 8; rw [z3]; omega⟩, rfl⟩
      unfold joinOk
      rw [z4]
      have e0 : (Str.ofString "").length = 0 := rfl
      rw [e0]
      omega
  rintro _ ⟨w, hw, rfl⟩
  refine ⟨fun δ => ∃ w, Word w ∧ δ = nameSt ws w, ?_, ?_⟩
  · obtain ⟨eo, ee⟩ := ws_empty ok
    simp (decide := true) only [startD, tdSeq, tdNext, tdSet, tdSetO, tdDrop, tdRet, tdRetO, tdRetN, tdIfS, tdAsg, tdPar, tdBreak, tdCont, tdFor, tdV, tdC, tdOp, tdB, tdT, tdNotT, tdAndT, tdOrT, tdAnd, tdOr, tdNot, tdIf, tdNeg, tdTup, tdLst, tdNil, tdCons, tdStar, tdMut, tdM1, tdSl, tdoN, tdoS, tdFmt, tdJs, tdgN, tdgT, tdgNil, tdgCons, pdE, pdV, pdNil, pdCons, getL, peek, frz, onB, onL, onT, owL, unowned, wipeD, tiL, tiT, tiS, tiV, tiR1, tiR2, tiE, tiZ, ttY, tdLc, pAdd, pMul, pII, pII0, pSS, pEq2, pIn2, pOrd, pIx2, pSl2, pSlL, pCat, pIsN, pLen, pI1, pI2, pInt, pStrI, pList, pTuple, pAll, pAny, pRepr, pJoin, pmAppend, pmExtend, pmPopAt, List.map_cons, List.map_nil, List.cons_append, List.nil_append, List.append_nil, List.length_cons, List.length_nil, List.getElem?_cons_zero, List.getElem?_cons_succ, List.set_cons_zero, List.set_cons_succ, List.replicate_succ, List.replicate_zero, Function.comp, Nat.reduceAdd, Nat.reduceSub, Nat.reduceLT, true_and, and_true, if_true, if_false, Bool.false_eq_true, ite_true, ite_false, Bool.not_true, Bool.not_false, reduceCtorEq, eqOk_str, eqOk_int, eqOk_bl, eqD_str, eqD_int, eqD_bl, decide_eq_true_eq, false_implies, true_implies, Option.some.injEq, exists_eq_left, exists_eq_left', exists_eq', or_false, false_or, eq_self, at0, at1, at2, at3, at4, D.str.injEq, D.int.injEq, D.bl.injEq, D.tup.injEq, D.lst.injEq, List.cons.injEq, Sl.fz.injEq, Sl.ow.injEq, fsDraw, nameSt]
    refine ⟨eo, ?_⟩
    split
    · rename_i z
      have ne : ws ≠ [] := fun e => by
        rw [ee.mpr e] at z
        cases z
      rintro d ⟨k, rfl, h0, h1⟩
      simp only [startD, tdSeq, tdNext, tdSet, tdSetO, tdDrop, tdRet, tdRetO, tdRetN, tdIfS, tdAsg, tdPar, tdBreak, tdCont, tdFor, tdV, tdC, tdOp, tdB, tdT, tdNotT, tdAndT, tdOrT, tdAnd, tdOr, tdNot, tdIf, tdNeg, tdTup, tdLst, tdNil, tdCons, tdStar, tdMut, tdM1, tdSl, tdoN, tdoS, tdFmt, tdJs, tdgN, tdgT, tdgNil, tdgCons, pdE, pdV, pdNil, pdCons, getL, peek, frz, onB, onL, onT, owL, unowned, wipeD, tiL, tiT, tiS, tiV, tiR1, tiR2, tiE, tiZ, ttY, tdLc, pAdd, pMul, pII, pII0, pSS, pEq2, pIn2, pOrd, pIx2, pSl2, pSlL, pCat, pIsN, pLen, pI1, pI2, pInt, pStrI, pList, pTuple, pAll, pAny, pRepr, pJoin, pmAppend, pmExtend, pmPopAt, List.map_cons, List.map_nil, List.cons_append, List.nil_append, List.append_nil, List.length_cons, List.length_nil, List.getElem?_cons_zero, List.getElem?_cons_succ, List.set_cons_zero, List.set_cons_succ, List.replicate_succ, List.replicate_zero, Function.comp, Nat.reduceAdd, Nat.reduceSub, Nat.reduceLT, true_and, and_true, if_true, if_false, Bool.false_eq_true, ite_true, ite_false, Bool.not_true, Bool.not_false, reduceCtorEq, eqOk_str, eqOk_int, eqOk_bl, eqD_str, eqD_int, eqD_bl, decide_eq_true_eq, false_implies, true_implies, Option.some.injEq, exists_eq_left, exists_eq_left', exists_eq', or_false, false_or, eq_self, at0, at1, at2, at3, at4, D.str.injEq, D.int.injEq, D.bl.injEq, D.tup.injEq, D.lst.injEq, List.cons.injEq, Sl.fz.injEq, Sl.ow.injEq]
      split
      · obtain ⟨x, ex, mx⟩ := atI_last (xs := ws.map D.str) (fun e => ne (List.map_eq_nil_iff.mp e))
        obtain ⟨y, my, rfl⟩ := List.mem_map.mp mx
        have wl := (ok y my).hi
        have ml : (Txt.mul w 8).length = 8 * w.length := mul_len (n := 8)
        have := hw.hi
        refine ⟨_, ex, mul_ok (by omega) (by decide) (by decide), ?_⟩
        simp only [startD, tdSeq, tdNext, tdSet, tdSetO, tdDrop, tdRet, tdRetO, tdRetN, tdIfS, tdAsg, tdPar, tdBreak, tdCont, tdFor, tdV, tdC, tdOp, tdB, tdT, tdNotT, tdAndT, tdOrT, tdAnd, tdOr, tdNot, tdIf, tdNeg, tdTup, tdLst, tdNil, tdCons, tdStar, tdMut, tdM1, tdSl, tdoN, tdoS, tdFmt, tdJs, tdgN, tdgT, tdgNil, tdgCons, pdE, pdV, pdNil, pdCons, getL, peek, frz, onB, onL, onT, owL, unowned, wipeD, tiL, tiT, tiS, tiV, tiR1, tiR2, tiE, tiZ, ttY, tdLc, pAdd, pMul, pII, pII0, pSS, pEq2, pIn2, pOrd, pIx2, pSl2, pSlL, pCat, pIsN, pLen, pI1, pI2, pInt, pStrI, pList, pTuple, pAll, pAny, pRepr, pJoin, pmAppend, pmExtend, pmPopAt, List.map_cons, List.map_nil, List.cons_append, List.nil_append, List.append_nil, List.length_cons, List.length_nil, List.getElem?_cons_zero, List.getElem?_cons_succ, List.set_cons_zero, List.set_cons_succ, List.replicate_succ, List.replicate_zero, Function.comp, Nat.reduceAdd, Nat.reduceSub, Nat.reduceLT, true_and, and_true, if_true, if_false, Bool.false_eq_true, ite_true, ite_false, Bool.not_true, Bool.not_false, reduceCtorEq, eqOk_str, eqOk_int, eqOk_bl, eqD_str, eqD_int, eqD_bl, decide_eq_true_eq, false_implies, true_implies, Option.some.injEq, exists_eq_left, exists_eq_left', exists_eq', or_false, false_or, eq_self, at0, at1, at2, at3, at4, D.str.injEq, D.int.injEq, D.bl.injEq, D.tup.injEq, D.lst.injEq, List.cons.injEq, Sl.fz.injEq, Sl.ow.injEq, len_app]
        exact ⟨by omega, by omega, _, cut_word (ok y my) (mul_az hw.az), rfl⟩
      · exact ⟨w, hw, rfl⟩
    · exact ⟨w, hw, rfl⟩
  rintro _ ⟨w, hw, rfl⟩
  refine ⟨fun δ => ∃ w, Word w ∧ δ = nameSt ws w, ?_, ?_⟩
  · simp (decide := true) only [startD, tdSeq, tdNext, tdSet, tdSetO, tdDrop, tdRet, tdRetO, tdRetN, tdIfS, tdAsg, tdPar, tdBreak, tdCont, tdFor, tdV, tdC, tdOp, tdB, tdT, tdNotT, tdAndT, tdOrT, tdAnd, tdOr, tdNot, tdIf, tdNeg, tdTup, tdLst, tdNil, tdCons, tdStar, tdMut, tdM1, tdSl, tdoN, tdoS, tdFmt, tdJs, tdgN, tdgT, tdgNil, tdgCons, pdE, pdV, pdNil, pdCons, getL, peek, frz, onB, onL, onT, owL, unowned, wipeD, tiL, tiT, tiS, tiV, tiR1, tiR2, tiE, tiZ, ttY, tdLc, pAdd, pMul, pII, pII0, pSS, pEq2, pIn2, pOrd, pIx2, pSl2, pSlL, pCat, pIsN, pLen, pI1, pI2, pInt, pStrI, pList, pTuple, pAll, pAny, pRepr, pJoin, pmAppend, pmExtend, pmPopAt, List.map_cons, List.map_nil, List.cons_append, List.nil_append, List.append_nil, List.length_cons, List.length_nil, List.getElem?_cons_zero, List.getElem?_cons_succ, List.set_cons_zero, List.set_cons_succ, List.replicate_succ, List.replicate_zero, Function.comp, Nat.reduceAdd, Nat.reduceSub, Nat.reduceLT, true_and, and_true, if_true, if_false, Bool.false_eq_true, ite_true, ite_false, Bool.not_true, Bool.not_false, reduceCtorEq, eqOk_str, eqOk_int, eqOk_bl, eqD_str, eqD_int, eqD_bl, decide_eq_true_eq, false_implies, true_implies, Option.some.injEq, exists_eq_left, exists_eq_left', exists_eq', or_false, false_or, eq_self, at0, at1, at2, at3, at4, D.str.injEq, D.int.injEq, D.bl.injEq, D.tup.injEq, D.lst.injEq, List.cons.injEq, Sl.fz.injEq, Sl.ow.injEq, fsDraw, nameSt]
    refine .inl ⟨rfl, (inV_map (w := w)).2, ?_⟩
    split
    · exact az_rest few fun x hx => ⟨x, hx, rfl⟩
    · split
      · exact az_rest few fun x hx => ⟨x, hx, rfl⟩
      · exact ⟨w, hw, rfl⟩
  rintro _ ⟨w, hw, rfl⟩
  simp only [startD, tdSeq, tdNext, tdSet, tdSetO, tdDrop, tdRet, tdRetO, tdRetN, tdIfS, tdAsg, tdPar, tdBreak, tdCont, tdFor, tdV, tdC, tdOp, tdB, tdT, tdNotT, tdAndT, tdOrT, tdAnd, tdOr, tdNot, tdIf, tdNeg, tdTup, tdLst, tdNil, tdCons, tdStar, tdMut, tdM1, tdSl, tdoN, tdoS, tdFmt, tdJs, tdgN, tdgT, tdgNil, tdgCons, pdE, pdV, pdNil, pdCons, getL, peek, frz, onB, onL, onT, owL, unowned, wipeD, tiL, tiT, tiS, tiV, tiR1, tiR2, tiE, tiZ, ttY, tdLc, pAdd, pMul, pII, pII0, pSS, pEq2, pIn2, pOrd, pIx2, pSl2, pSlL, pCat, pIsN, pLen, pI1, pI2, pInt, pStrI, pList, pTuple, pAll, pAny, pRepr, pJoin, pmAppend, pmExtend, pmPopAt, List.map_cons, List.map_nil, List.cons_append, List.nil_append, List.append_nil, List.length_cons, List.length_nil, List.getElem?_cons_zero, List.getElem?_cons_succ, List.set_cons_zero, List.set_cons_succ, List.replicate_succ, List.replicate_zero, Function.comp, Nat.reduceAdd, Nat.reduceSub, Nat.reduceLT, true_and, and_true, if_true, if_false, Bool.false_eq_true, ite_true, ite_false, Bool.not_true, Bool.not_false, reduceCtorEq, eqOk_str, eqOk_int, eqOk_bl, eqD_str, eqD_int, eqD_bl, decide_eq_true_eq, false_implies, true_implies, Option.some.injEq, exists_eq_left, exists_eq_left', exists_eq', or_false, false_or, eq_self, at0, at1, at2, at3, at4, D.str.injEq, D.int.injEq, D.bl.injEq, D.tup.injEq, D.lst.injEq, List.cons.injEq, Sl.fz.injEq, Sl.ow.injEq, fsName, nameSt]
  exact hw
end
end K96


set_option Elab.async false
set_option linter.all false
set_option maxRecDepth 100000
set_option maxHeartbeats 8000000
namespace K96
open PySem PySem.Spec L2 PSG PSS DL TL
open PyProof.Rows (IntsAre AllBare)


section
variable {P : Program} {w : World} {K : PySem.W.Frag} {mg : Str → Option Value} {base : Heap}
def fsNames : FS where
  pre := fun ds => ∃ n : Nat, ds = [.pot, .int n] ∧ n ≤ 3
  post := fun ds d => ∃ ws : List Str, d = .lst (ws.map D.str) ∧ ds = [.pot, .int ws.length] ∧ ∀ x ∈ ws, Word x
theorem ok__law_names {f : Addr} {fd : FuncData} {f0 : Addr} {d0 : FuncData} (F : Fun K "_law_names" "_law_names" s__law_names f fd) (T : Blt K mg)
    (F__law_name : Fun K "_law_name" "_law_name" s__law_name f0 d0) (b__law_name : Binds K d0 ["_law_pot_here", "_law_taken"] []) (g__law_name : mg "_law_name" = some (.ref f0)) (G__law_name : FnG P w K mg base CX0 2 f0 d0 ["_law_pot_here", "_law_taken"] (spD K 2 fsName)) (fl__law_name : fsName.Flat) : FnG P w K mg base CX0 3 f fd ["_law_pot_here", "_law_many"] (spD K 2 fsNames) := by
  have sc := sc__law_names
  refine okD (k := 2) F sc fun X hX hr gd => ?_
  obtain ⟨cdv, A, outer, s, H, E, rfl⟩ := hX
  refine ⟨_, (dss_cut (ds_setO (i := 2) sc.nd rfl (.inl rfl) (de_lst da_nil))
      (dss_cut (ds_for PassesOwn.never (by rfl) (di_range1 (by rfl) T.n_range (da_cons (de_v 1) da_nil)) (dg_name (i := 3) sc.nd rfl (.inl rfl)) (dss_one (ds_expr (de_mut 2 PySem.F.slot_list_append PySem.F.type_list_append mt_append mut_append (da_cons (de_callP G__law_name (hr.mono (by omega)) gd (by rfl) g__law_name F__law_name.kp b__law_name fl__law_name (dqs_cons (DE.dq (de_v 0)) (dqs_cons (dq_v 2) dqs_nil))) da_nil)))))
      (dss_one (ds_retO 2)))), fun ds l pre => ?_⟩
  obtain ⟨n, rfl, hn⟩ := pre
  have sl := sizeLine_eq
  refine ⟨fun δ => δ = [some (.fz .pot), some (.fz (.int n)), some (.ow (.lst [])), none], ?_, ?_⟩
  · simp only [startD, tdSeq, tdNext, tdSet, tdSetO, tdDrop, tdRet, tdRetO, tdRetN, tdIfS, tdAsg, tdPar, tdBreak, tdCont, tdFor, tdV, tdC, tdOp, tdB, tdT, tdNotT, tdAndT, tdOrT, tdAnd, tdOr, tdNot, tdIf, tdNeg, tdTup, tdLst, tdNil, tdCons, tdStar, tdMut, tdM1, tdSl, tdoN, tdoS, tdFmt, tdJs, tdgN, tdgT, tdgNil, tdgCons, pdE, pdV, pdNil, pdCons, getL, peek, frz, onB, onL, onT, owL, unowned, wipeD, tiL, tiT, tiS, tiV, tiR1, tiR2, tiE, tiZ, ttY, tdLc, pAdd, pMul, pII, pII0, pSS, pEq2, pIn2, pOrd, pIx2, pSl2, pSlL, pCat, pIsN, pLen, pI1, pI2, pInt, pStrI, pList, pTuple, pAll, pAny, pRepr, pJoin, pmAppend, pmExtend, pmPopAt, List.map_cons, List.map_nil, List.cons_append, List.nil_append, List.append_nil, List.length_cons, List.length_nil, List.getElem?_cons_zero, List.getElem?_cons_succ, List.set_cons_zero, List.set_cons_succ, List.replicate_succ, List.replicate_zero, Function.comp, Nat.reduceAdd, Nat.reduceSub, Nat.reduceLT, true_and, and_true, if_true, if_false, Bool.false_eq_true, ite_true, ite_false, Bool.not_true, Bool.not_false, reduceCtorEq, eqOk_str, eqOk_int, eqOk_bl, eqD_str, eqD_int, eqD_bl, decide_eq_true_eq, false_implies, true_implies, Option.some.injEq, exists_eq_left, exists_eq_left', exists_eq', or_false, false_or, eq_self, at0, at1, at2, at3, at4, D.str.injEq, D.int.injEq, D.bl.injEq, D.tup.injEq, D.lst.injEq, List.cons.injEq, Sl.fz.injEq, Sl.ow.injEq]
    exact Nat.zero_le _
  rintro _ rfl
  refine ⟨fun δ => ∃ ws : List Str, ws.length = n ∧ (∀ x ∈ ws, Word x) ∧ ∃ o, δ = [some (.fz .pot), some (.fz (.int n)), some (.ow (.lst (ws.map D.str))), o], ?_, ?_⟩
  · refine ⟨⟨by omega, by omega⟩, fun i δ => ∃ ws : List Str, ws.length = i ∧ (∀ x ∈ ws, Word x) ∧ ∃ o, δ = [some (.fz .pot), some (.fz (.int n)), some (.ow (.lst (ws.map D.str))), o], ⟨[], rfl, (fun x m => nomatch m), none, rfl⟩, fun i d δ e ⟨ws, l, g, o, eδ⟩ => ?_, fun δ ⟨ws, l, g, o, eδ⟩ => ⟨ws, ?_, g, o, eδ⟩⟩
    · subst eδ
      have il := (List.getElem?_eq_some_iff.mp e).1
      unfold rg at il
      rw [List.length_map, List.length_range] at il
      simp only [startD, tdSeq, tdNext, tdSet, tdSetO, tdDrop, tdRet, tdRetO, tdRetN, tdIfS, tdAsg, tdPar, tdBreak, tdCont, tdFor, tdV, tdC, tdOp, tdB, tdT, tdNotT, tdAndT, tdOrT, tdAnd, tdOr, tdNot, tdIf, tdNeg, tdTup, tdLst, tdNil, tdCons, tdStar, tdMut, tdM1, tdSl, tdoN, tdoS, tdFmt, tdJs, tdgN, tdgT, tdgNil, tdgCons, pdE, pdV, pdNil, pdCons, getL, peek, frz, onB, onL, onT, owL, unowned, wipeD, tiL, tiT, tiS, tiV, tiR1, tiR2, tiE, tiZ, ttY, tdLc, pAdd, pMul, pII, pII0, pSS, pEq2, pIn2, pOrd, pIx2, pSl2, pSlL, pCat, pIsN, pLen, pI1, pI2, pInt, pStrI, pList, pTuple, pAll, pAny, pRepr, pJoin, pmAppend, pmExtend, pmPopAt, List.map_cons, List.map_nil, List.cons_append, List.nil_append, List.append_nil, List.length_cons, List.length_nil, List.getElem?_cons_zero, List.getElem?_cons_succ, List.set_cons_zero, List.set_cons_succ, List.replicate_succ, List.replicate_zero, Function.comp, Nat.reduceAdd, Nat.reduceSub, Nat.reduceLT, true_and, and_true, if_true, if_false, Bool.false_eq_true, ite_true, ite_false, Bool.not_true, Bool.not_false, reduceCtorEq, eqOk_str, eqOk_int, eqOk_bl, eqD_str, eqD_int, eqD_bl, decide_eq_true_eq, false_implies, true_implies, Option.some.injEq, exists_eq_left, exists_eq_left', exists_eq', or_false, false_or, eq_self, at0, at1, at2, at3, at4, D.str.injEq, D.int.injEq, D.bl.injEq, D.tup.injEq, D.lst.injEq, List.cons.injEq, Sl.fz.injEq, Sl.ow.injEq]
      refine ⟨⟨ws, rfl, by omega, g⟩, ?_⟩
      rintro d ⟨x, rfl, hx⟩
      refine ⟨by rw [List.length_map]; omega, ws ++ [x], by rw [List.length_append, l]; rfl, fun y m => ?_, _, by rw [List.map_append]; rfl, rfl⟩
      rcases List.mem_append.mp m with m | m
      · exact g y m
      · rw [List.mem_singleton.mp m]
        exact hx
    · unfold rg at l
      rw [List.length_map, List.length_range] at l
      omega
  rintro _ ⟨ws, l, g, o, rfl⟩
  simp only [startD, tdSeq, tdNext, tdSet, tdSetO, tdDrop, tdRet, tdRetO, tdRetN, tdIfS, tdAsg, tdPar, tdBreak, tdCont, tdFor, tdV, tdC, tdOp, tdB, tdT, tdNotT, tdAndT, tdOrT, tdAnd, tdOr, tdNot, tdIf, tdNeg, tdTup, tdLst, tdNil, tdCons, tdStar, tdMut, tdM1, tdSl, tdoN, tdoS, tdFmt, tdJs, tdgN, tdgT, tdgNil, tdgCons, pdE, pdV, pdNil, pdCons, getL, peek, frz, onB, onL, onT, owL, unowned, wipeD, tiL, tiT, tiS, tiV, tiR1, tiR2, tiE, tiZ, ttY, tdLc, pAdd, pMul, pII, pII0, pSS, pEq2, pIn2, pOrd, pIx2, pSl2, pSlL, pCat, pIsN, pLen, pI1, pI2, pInt, pStrI, pList, pTuple, pAll, pAny, pRepr, pJoin, pmAppend, pmExtend, pmPopAt, List.map_cons, List.map_nil, List.cons_append, List.nil_append, List.append_nil, List.length_cons, List.length_nil, List.getElem?_cons_zero, List.getElem?_cons_succ, List.set_cons_zero, List.set_cons_succ, List.replicate_succ, List.replicate_zero, Function.comp, Nat.reduceAdd, Nat.reduceSub, Nat.reduceLT, true_and, and_true, if_true, if_false, Bool.false_eq_true, ite_true, ite_false, Bool.not_true, Bool.not_false, reduceCtorEq, eqOk_str, eqOk_int, eqOk_bl, eqD_str, eqD_int, eqD_bl, decide_eq_true_eq, false_implies, true_implies, Option.some.injEq, exists_eq_left, exists_eq_left', exists_eq', or_false, false_or, eq_self, at0, at1, at2, at3, at4, D.str.injEq, D.int.injEq, D.bl.injEq, D.tup.injEq, D.lst.injEq, List.cons.injEq, Sl.fz.injEq, Sl.ow.injEq, fsNames]
  exact ⟨ws, rfl, by rw [l], g⟩
def fsShuf : FS where
  pre := fun ds => ∃ xs : List D, ds = [.pot, .lst xs] ∧ xs.length ≤ 100
  post := fun ds d => ∃ xs ys : List D, ds = [.pot, .lst xs] ∧ d = .lst ys ∧ ys.length = xs.length ∧ ∀ y ∈ ys, y ∈ xs
theorem shuf_post {xs : List D} {d : D} (h : fsShuf.post [.pot, .lst xs] d) : ∃ ys, d = .lst ys ∧ ys.length = xs.length ∧ ∀ y ∈ ys, y ∈ xs := by
  obtain ⟨xs', ys, e, z⟩ := h
  have e2 : xs = xs' := D.lst.inj (List.cons.inj (List.cons.inj e).2).1
  rw [e2]
  exact ⟨ys, z⟩
theorem ok__law_shuffled {f : Addr} {fd : FuncData} {f0 : Addr} {d0 : FuncData} (F : Fun K "_law_shuffled" "_law_shuffled" s__law_shuffled f fd) (T : Blt K mg)
    (F__law_draw : Fun K "_law_draw" "_law_draw" s__law_draw f0 d0) (b__law_draw : Binds K d0 ["_law_pot_here", "_law_many"] []) (g__law_draw : mg "_law_draw" = some (.ref f0)) (G__law_draw : FnG P w K mg base CX0 1 f0 d0 ["_law_pot_here", "_law_many"] (spD K 2 fsDraw)) : FnG P w K mg base CX0 2 f fd ["_law_pot_here", "_law_some"] (spD K 2 fsShuf) := by
  have sc := sc__law_shuffled
  refine okD (k := 1) F sc fun X hX hr gd => ?_
  obtain ⟨cdv, A, outer, s, H, E, rfl⟩ := hX
  refine ⟨_, (dss_cut (ds_par (i := 2) (j := 3) (o1 := true) (o2 := true) (by rfl) sc.nd rfl rfl (by decide) rfl rfl (de_callTy call_list_of cd_list (by rfl) T.n_list (by decide +kernel) (dps_cons (dp_v 1) dps_nil)) (de_lst da_nil) (by rfl))
      (dss_cut (ds_for PassesOwn.never (by rfl) (di_v 1) (dg_name (i := 4) sc.nd rfl (.inl rfl)) (dss_one (ds_expr (de_mut 3 PySem.F.slot_list_append PySem.F.type_list_append mt_append mut_append (da_cons (de_mut 2 PySem.F.slot_list_pop PySem.F.type_list_pop mt_popAt mut_popAt (da_cons (de_call1 G__law_draw (hr.mono (by omega)) gd (by rfl) g__law_draw F__law_draw.kp b__law_draw (da_cons (de_v 0) (da_cons (de_callB call_len cd_len (by rfl) T.n_len PySem.boot_len (dps_cons (dp_v 2) dps_nil)) da_nil))) da_nil)) da_nil)))))
      (dss_one (ds_retO 3)))), fun ds l pre => ?_⟩
  obtain ⟨xs, rfl, hn⟩ := pre
  have sl := sizeLine_eq
  refine ⟨fun δ => δ = [some (.fz .pot), some (.fz (.lst xs)), some (.ow (.lst xs)), some (.ow (.lst [])), none], ?_, ?_⟩
  · simp only [startD, tdSeq, tdNext, tdSet, tdSetO, tdDrop, tdRet, tdRetO, tdRetN, tdIfS, tdAsg, tdPar, tdBreak, tdCont, tdFor, tdV, tdC, tdOp, tdB, tdT, tdNotT, tdAndT, tdOrT, tdAnd, tdOr, tdNot, tdIf, tdNeg, tdTup, tdLst, tdNil, tdCons, tdStar, tdMut, tdM1, tdSl, tdoN, tdoS, tdFmt, tdJs, tdgN, tdgT, tdgNil, tdgCons, pdE, pdV, pdNil, pdCons, getL, peek, frz, onB, onL, onT, owL, unowned, wipeD, tiL, tiT, tiS, tiV, tiR1, tiR2, tiE, tiZ, ttY, tdLc, pAdd, pMul, pII, pII0, pSS, pEq2, pIn2, pOrd, pIx2, pSl2, pSlL, pCat, pIsN, pLen, pI1, pI2, pInt, pStrI, pList, pTuple, pAll, pAny, pRepr, pJoin, pmAppend, pmExtend, pmPopAt, List.map_cons, List.map_nil, List.cons_append, List.nil_append, List.append_nil, List.length_cons, List.length_nil, List.getElem?_cons_zero, List.getElem?_cons_succ, List.set_cons_zero, List.set_cons_succ, List.replicate_succ, List.replicate_zero, Function.comp, Nat.reduceAdd, Nat.reduceSub, Nat.reduceLT, true_and, and_true, if_true, if_false, Bool.false_eq_true, ite_true, ite_false, Bool.not_true, Bool.not_false, reduceCtorEq, eqOk_str, eqOk_int, eqOk_bl, eqD_str, eqD_int, eqD_bl, decide_eq_true_eq, false_implies, true_implies, Option.some.injEq, exists_eq_left, exists_eq_left', exists_eq', or_false, false_or, eq_self, at0, at1, at2, at3, at4, D.str.injEq, D.int.injEq, D.bl.injEq, D.tup.injEq, D.lst.injEq, List.cons.injEq, Sl.fz.injEq, Sl.ow.injEq]
    exact Nat.zero_le _
  rintro _ rfl
  refine ⟨fun δ => ∃ ls ms : List D, ms.length = xs.length ∧ (∀ x ∈ ms, x ∈ xs) ∧ ∃ o, δ = [some (.fz .pot), some (.fz (.lst xs)), some (.ow (.lst ls)), some (.ow (.lst ms)), o], ?_, ?_⟩
  · refine ⟨fun i δ => ∃ ls ms : List D, ms.length = i ∧ ls.length + i = xs.length ∧ (∀ x ∈ ls, x ∈ xs) ∧ (∀ x ∈ ms, x ∈ xs) ∧ ∃ o, δ = [some (.fz .pot), some (.fz (.lst xs)), some (.ow (.lst ls)), some (.ow (.lst ms)), o], ⟨xs, [], rfl, rfl, (fun x m => m), (fun x m => nomatch m), none, rfl⟩, fun i d δ e ⟨ls, ms, l1, l2, g1, g2, o, eδ⟩ => ?_, fun δ ⟨ls, ms, l1, l2, g1, g2, o, eδ⟩ => ⟨ls, ms, l1, g2, o, eδ⟩⟩
    subst eδ
    have il := (List.getElem?_eq_some_iff.mp e).1
    simp only [startD, tdSeq, tdNext, tdSet, tdSetO, tdDrop, tdRet, tdRetO, tdRetN, tdIfS, tdAsg, tdPar, tdBreak, tdCont, tdFor, tdV, tdC, tdOp, tdB, tdT, tdNotT, tdAndT, tdOrT, tdAnd, tdOr, tdNot, tdIf, tdNeg, tdTup, tdLst, tdNil, tdCons, tdStar, tdMut, tdM1, tdSl, tdoN, tdoS, tdFmt, tdJs, tdgN, tdgT, tdgNil, tdgCons, pdE, pdV, pdNil, pdCons, getL, peek, frz, onB, onL, onT, owL, unowned, wipeD, tiL, tiT, tiS, tiV, tiR1, tiR2, tiE, tiZ, ttY, tdLc, pAdd, pMul, pII, pII0, pSS, pEq2, pIn2, pOrd, pIx2, pSl2, pSlL, pCat, pIsN, pLen, pI1, pI2, pInt, pStrI, pList, pTuple, pAll, pAny, pRepr, pJoin, pmAppend, pmExtend, pmPopAt, List.map_cons, List.map_nil, List.cons_append, List.nil_append, List.append_nil, List.length_cons, List.length_nil, List.getElem?_cons_zero, List.getElem?_cons_succ, List.set_cons_zero, List.set_cons_succ, List.replicate_succ, List.replicate_zero, Function.comp, Nat.reduceAdd, Nat.reduceSub, Nat.reduceLT, true_and, and_true, if_true, if_false, Bool.false_eq_true, ite_true, ite_false, Bool.not_true, Bool.not_false, reduceCtorEq, eqOk_str, eqOk_int, eqOk_bl, eqD_str, eqD_int, eqD_bl, decide_eq_true_eq, false_implies, true_implies, Option.some.injEq, exists_eq_left, exists_eq_left', exists_eq', or_false, false_or, eq_self, at0, at1, at2, at3, at4, D.str.injEq, D.int.injEq, D.bl.injEq, D.tup.injEq, D.lst.injEq, List.cons.injEq, Sl.fz.injEq, Sl.ow.injEq, fsDraw]
    refine ⟨⟨by omega, by omega⟩, ?_⟩
    rintro d ⟨k, rfl, h0, h1⟩
    obtain ⟨n, rfl⟩ : ∃ n : Nat, k = n := ⟨k.toNat, by omega⟩
    have hnl : n < ls.length := by omega
    refine ⟨⟨by omega, by omega⟩, n, ls[n], ?_, List.getElem?_eq_getElem hnl, ?_⟩
    · exact seqIndex_nat hnl
    refine ⟨by omega, ls.eraseIdx n, ms ++ [ls[n]], by rw [List.length_append, l1]; rfl, by rw [List.length_eraseIdx_of_lt hnl]; omega, fun x m => g1 x (List.mem_of_mem_eraseIdx m), fun x m => ?_, _, rfl, rfl, rfl⟩
    rcases List.mem_append.mp m with m | m
    · exact g2 x m
    · rw [List.mem_singleton.mp m]
      exact g1 _ (List.getElem_mem hnl)
  rintro _ ⟨ls, ms, l, g, o, rfl⟩
  simp only [startD, tdSeq, tdNext, tdSet, tdSetO, tdDrop, tdRet, tdRetO, tdRetN, tdIfS, tdAsg, tdPar, tdBreak, tdCont, tdFor, tdV, tdC, tdOp, tdB, tdT, tdNotT, tdAndT, tdOrT, tdAnd, tdOr, tdNot, tdIf, tdNeg, tdTup, tdLst, tdNil, tdCons, tdStar, tdMut, tdM1, tdSl, tdoN, tdoS, tdFmt, tdJs, tdgN, tdgT, tdgNil, tdgCons, pdE, pdV, pdNil, pdCons, getL, peek, frz, onB, onL, onT, owL, unowned, wipeD, tiL, tiT, tiS, tiV, tiR1, tiR2, tiE, tiZ, ttY, tdLc, pAdd, pMul, pII, pII0, pSS, pEq2, pIn2, pOrd, pIx2, pSl2, pSlL, pCat, pIsN, pLen, pI1, pI2, pInt, pStrI, pList, pTuple, pAll, pAny, pRepr, pJoin, pmAppend, pmExtend, pmPopAt, List.map_cons, List.map_nil, List.cons_append, List.nil_append, List.append_nil, List.length_cons, List.length_nil, List.getElem?_cons_zero, List.getElem?_cons_succ, List.set_cons_zero, List.set_cons_succ, List.replicate_succ, List.replicate_zero, Function.comp, Nat.reduceAdd, Nat.reduceSub, Nat.reduceLT, true_and, and_true, if_true, if_false, Bool.false_eq_true, ite_true, ite_false, Bool.not_true, Bool.not_false, reduceCtorEq, eqOk_str, eqOk_int, eqOk_bl, eqD_str, eqD_int, eqD_bl, decide_eq_true_eq, false_implies, true_implies, Option.some.injEq, exists_eq_left, exists_eq_left', exists_eq', or_false, false_or, eq_self, at0, at1, at2, at3, at4, D.str.injEq, D.int.injEq, D.bl.injEq, D.tup.injEq, D.lst.injEq, List.cons.injEq, Sl.fz.injEq, Sl.ow.injEq, fsShuf]
  exact ⟨xs, ms, rfl, rfl, l, g⟩
end
end K96


set_option Elab.async false
set_option linter.all false
set_option maxRecDepth 100000
set_option maxHeartbeats 8000000
namespace K96
open PySem PySem.Spec L2 PSG PSS DL TL
open PyProof.Rows (IntsAre AllBare)

abbrev s__law_tables : Stmt := topS 16
theorem sc__law_tables : FnScope ["_law_pot_here", "_law_tables_here", "_law_at", "_law_title", "_law_references", "_law_word"] ["_law_pot_here"] (defScope s__law_tables) := ⟨rfl, rfl, rfl, by decide +kernel, rfl, by decide +kernel, by decide +kernel⟩
abbrev s__law_entries_of : Stmt := topS 17
theorem sc__law_entries_of : FnScope ["_law_pot_here", "_law_references", "_law_most", "_law_picked", "_law_one"] ["_law_pot_here", "_law_references", "_law_most"] (defScope s__law_entries_of) := ⟨rfl, rfl, rfl, by decide +kernel, rfl, by decide +kernel, by decide +kernel⟩
abbrev s__law_side : Stmt := topS 18
theorem sc__law_side : FnScope ["_law_pot_here", "_law_table", "_law_tree"] ["_law_pot_here", "_law_table"] (defScope s__law_side) := ⟨rfl, rfl, rfl, by decide +kernel, rfl, by decide +kernel, by decide +kernel⟩
abbrev s__law_more : Stmt := topS 19
theorem sc__law_more : FnScope ["_law_pot_here", "_law_tree", "_law_references", "_law_table", "_law_pairs", "_law_many", "_law_one", "_law_other"] ["_law_pot_here", "_law_tree", "_law_references", "_law_table"] (defScope s__law_more) := ⟨rfl, rfl, rfl, by decide +kernel, rfl, by decide +kernel, by decide +kernel⟩
/-- a table: its name, its references, its indexes -/
structure Tb where
  t : Str
  rs : List Str
  ix : List Str
def Tb.D (x : Tb) : DL.D := .tup [.str x.t, .lst (x.rs.map D.str), .lst (x.ix.map D.str)]
structure Tb.Ok (x : Tb) : Prop where
  t : Word x.t
  r0 : x.rs ≠ []
  r1 : x.rs.length ≤ 3
  rs : ∀ r ∈ x.rs, Ref r
  i0 : x.ix.length = 2
  ix : ∀ r ∈ x.ix, Word r
theorem ref_of {t w : Str} (ht : Word t) (hw : Word w) : Ref (t ++ "." ++ w) := ⟨t, w, ht, hw, by rw [tl_app, tl_app]; rfl⟩
theorem take_mapall {α β : Type} {f : α → β} {xs : List α} : xs.take (xs.map f).length = xs := by rw [List.length_map, List.take_length]
theorem str_inj {a b : Str} (h : D.str a = D.str b) : a = b := D.str.inj h
section
variable {P : Program} {w : World} {K : PySem.W.Frag} {mg : Str → Option Value} {base : Heap}
theorem names_post {n : Nat} {d : D} (h : fsNames.post [.pot, .int n] d) : ∃ ws : List Str, d = .lst (ws.map D.str) ∧ ws.length = n ∧ ∀ x ∈ ws, Word x := by
  obtain ⟨ws, rfl, e, g⟩ := h
  have e2 : (n : Int) = ws.length := D.int.inj (List.cons.inj (List.cons.inj e).2).1
  exact ⟨ws, rfl, by omega, g⟩
def fsTables : FS where
  pre := fun ds => ds = [.pot]
  post := fun _ d => ∃ ts : List Tb, d = .lst (ts.map Tb.D) ∧ ts.length = 3 ∧ ∀ t ∈ ts, t.Ok
theorem ok__law_tables {f : Addr} {fd : FuncData} {f0 : Addr} {d0 : FuncData} (F : Fun K "_law_tables" "_law_tables" s__law_tables f fd) (T : Blt K mg)
    (F__law_names : Fun K "_law_names" "_law_names" s__law_names f0 d0) (b__law_names : Binds K d0 ["_law_pot_here", "_law_many"] []) (g__law_names : mg "_law_names" = some (.ref f0)) (G__law_names : FnG P w K mg base CX0 3 f0 d0 ["_law_pot_here", "_law_many"] (spD K 2 fsNames)) : FnG P w K mg base CX0 4 f fd ["_law_pot_here"] (spD K 1 fsTables) := by
  have sc := sc__law_tables
  refine okD (k := 3) F sc fun X hX hr gd => ?_
  obtain ⟨cdv, A, outer, s, H, E, rfl⟩ := hX
  refine ⟨_, (dss_cut (ds_setO (i := 1) sc.nd rfl (.inl rfl) (de_lst da_nil))
      (dss_cut (ds_for PassesOwn.never (by rfl) (di_enum (by rfl) T.n_enumerate (da_cons (de_call1 G__law_names (hr.mono (by omega)) gd (by rfl) g__law_names F__law_names.kp b__law_names (da_cons (de_v 0) (da_cons de_int da_nil))) da_nil)) (dg_tup (n := 2) (by rfl) (dgs_cons (dg_name (i := 2) sc.nd rfl (.inl rfl)) (dgs_cons (dg_name (i := 3) sc.nd rfl (.inr rfl)) dgs_nil))) (dss_cons (ds_setLc (i := 4) (own := [("_law_word", 5)]) (by rfl) sc.nd rfl rfl (sw_true rfl rfl rfl (by decide +kernel)) (d_it (de_call1 G__law_names (hr.mono (by omega)) gd (by rfl) g__law_names F__law_names.kp b__law_names (da_cons (de_v 0) (da_cons (d_sub (DE.dp de_int) (DE.dp (d_fdiv (dp_v 2) (DE.dp de_int)))) da_nil)))) (blkOk_by (own := [("_law_word", 5)]) (N := ["_law_pot_here", "_law_tables_here", "_law_at", "_law_title", "_law_references", "_law_word"]) (sc := defScope s__law_tables) (by decide +kernel)) (fun _ _ _ _ _ => (dg_name (i := 5) sc.nd rfl (.inl rfl))) (fun _ _ _ _ _ => (d_add (DE.dp (d_add (dp_v 3) (DE.dp de_str))) (dp_v 5))))
      (dss_one (ds_expr (de_mut 1 PySem.F.slot_list_append PySem.F.type_list_append mt_append mut_append (da_cons (de_tup (da_cons (de_v 3) (da_cons (de_v 4) (da_cons (de_call1 G__law_names (hr.mono (by omega)) gd (by rfl) g__law_names F__law_names.kp b__law_names (da_cons (de_v 0) (da_cons de_int da_nil))) da_nil)))) da_nil))))))
      (dss_one (ds_retO 1)))), fun ds l pre => ?_⟩
  have pre : ds = [.pot] := pre
  subst pre
  have sl := sizeLine_eq
  refine ⟨fun δ => δ = [some (.fz .pot), some (.ow (.lst [])), none, none, none, none], ?_, ?_⟩
  · simp only [startD, tdSeq, tdNext, tdSet, tdSetO, tdDrop, tdRet, tdRetO, tdRetN, tdIfS, tdAsg, tdPar, tdBreak, tdCont, tdFor, tdV, tdC, tdOp, tdB, tdT, tdNotT, tdAndT, tdOrT, tdAnd, tdOr, tdNot, tdIf, tdNeg, tdTup, tdLst, tdNil, tdCons, tdStar, tdMut, tdM1, tdSl, tdoN, tdoS, tdFmt, tdJs, tdgN, tdgT, tdgNil, tdgCons, pdE, pdV, pdNil, pdCons, getL, peek, frz, onB, onL, onT, owL, unowned, wipeD, tiL, tiT, tiS, tiV, tiR1, tiR2, tiE, tiZ, ttY, tdLc, pAdd, pMul, pII, pII0, pSS, pEq2, pIn2, pOrd, pIx2, pSl2, pSlL, pCat, pIsN, pLen, pI1, pI2, pInt, pStrI, pList, pTuple, pAll, pAny, pRepr, pJoin, pmAppend, pmExtend, pmPopAt, List.map_cons, List.map_nil, List.cons_append, List.nil_append, List.append_nil, List.length_cons, List.length_nil, List.getElem?_cons_zero, List.getElem?_cons_succ, List.set_cons_zero, List.set_cons_succ, List.replicate_succ, List.replicate_zero, Function.comp, Nat.reduceAdd, Nat.reduceSub, Nat.reduceLT, true_and, and_true, if_true, if_false, Bool.false_eq_true, ite_true, ite_false, Bool.not_true, Bool.not_false, reduceCtorEq, eqOk_str, eqOk_int, eqOk_bl, eqD_str, eqD_int, eqD_bl, decide_eq_true_eq, false_implies, true_implies, Option.some.injEq, exists_eq_left, exists_eq_left', exists_eq', or_false, false_or, eq_self, at0, at1, at2, at3, at4, D.str.injEq, D.int.injEq, D.bl.injEq, D.tup.injEq, D.lst.injEq, List.cons.injEq, Sl.fz.injEq, Sl.ow.injEq]
    exact Nat.zero_le _
  rintro _ rfl
  refine ⟨fun δ => ∃ ts : List Tb, ts.length = 3 ∧ (∀ x ∈ ts, x.Ok) ∧ ∃ a b c e, δ = [some (.fz .pot), some (.ow (.lst (ts.map Tb.D))), a, b, c, e], ?_, ?_⟩
  · refine ⟨rfl, ⟨3, rfl, by decide⟩, fun d hd => ?_⟩
    obtain ⟨ws, rfl, lw, gw⟩ := names_post (n := 3) hd
    refine ⟨fun i δ => ∃ ts : List Tb, ts.length = i ∧ (∀ x ∈ ts, x.Ok) ∧ ∃ a b c e, δ = [some (.fz .pot), some (.ow (.lst (ts.map Tb.D))), a, b, c, e] ∧ (∀ d, e ≠ some (.ow d)), ⟨[], rfl, (fun x m => nomatch m), none, none, none, none, rfl, fun _ z => nomatch z⟩, fun i d δ e ⟨ts, l, g, a, b, c, e', eδ, ne⟩ => ?_, fun δ ⟨ts, l, g, a, b, c, e, eδ, _⟩ => ⟨ts, by rw [enu_length, List.length_map] at l; omega, g, a, b, c, e, eδ⟩⟩
    subst eδ
    have il := (List.getElem?_eq_some_iff.mp e).1
    rw [enu_length, List.length_map] at il
    have hi : (ws.map D.str)[i]? = some (.str ws[i]) := by rw [List.getElem?_map, List.getElem?_eq_getElem il]; rfl
    rw [enu_get hi] at e
    cases e
    have wt := gw ws[i] (List.getElem_mem il)
    generalize ws[i] = t at wt ⊢
    simp only [startD, tdSeq, tdNext, tdSet, tdSetO, tdDrop, tdRet, tdRetO, tdRetN, tdIfS, tdAsg, tdPar, tdBreak, tdCont, tdFor, tdV, tdC, tdOp, tdB, tdT, tdNotT, tdAndT, tdOrT, tdAnd, tdOr, tdNot, tdIf, tdNeg, tdTup, tdLst, tdNil, tdCons, tdStar, tdMut, tdM1, tdSl, tdoN, tdoS, tdFmt, tdJs, tdgN, tdgT, tdgNil, tdgCons, pdE, pdV, pdNil, pdCons, getL, peek, frz, onB, onL, onT, owL, unowned, wipeD, tiL, tiT, tiS, tiV, tiR1, tiR2, tiE, tiZ, ttY, tdLc, pAdd, pMul, pII, pII0, pSS, pEq2, pIn2, pOrd, pIx2, pSl2, pSlL, pCat, pIsN, pLen, pI1, pI2, pInt, pStrI, pList, pTuple, pAll, pAny, pRepr, pJoin, pmAppend, pmExtend, pmPopAt, List.map_cons, List.map_nil, List.cons_append, List.nil_append, List.append_nil, List.length_cons, List.length_nil, List.getElem?_cons_zero, List.getElem?_cons_succ, List.set_cons_zero, List.set_cons_succ, List.replicate_succ, List.replicate_zero, Function.comp, Nat.reduceAdd, Nat.reduceSub, Nat.reduceLT, true_and, and_true, if_true, if_false, Bool.false_eq_true, ite_true, ite_false, Bool.not_true, Bool.not_false, reduceCtorEq, eqOk_str, eqOk_int, eqOk_bl, eqD_str, eqD_int, eqD_bl, decide_eq_true_eq, false_implies, true_implies, Option.some.injEq, exists_eq_left, exists_eq_left', exists_eq', or_false, false_or, eq_self, at0, at1, at2, at3, at4, D.str.injEq, D.int.injEq, D.bl.injEq, D.tup.injEq, D.lst.injEq, List.cons.injEq, Sl.fz.injEq, Sl.ow.injEq, len_app]
    refine .inl ?_
    obtain ⟨n, en, n1⟩ : ∃ n : Nat, 3 - (i : Int) / 2 = n ∧ 1 ≤ n ∧ n ≤ 3 := ⟨(3 - (i : Int) / 2).toNat, by omega, by omega, by omega⟩
    rw [en]
    refine ⟨by unfold CDiv; omega, ⟨n, rfl, n1.2⟩, fun d hd => ?_⟩
    obtain ⟨vs, rfl, lv, gv⟩ := names_post hd
    simp only [startD, tdSeq, tdNext, tdSet, tdSetO, tdDrop, tdRet, tdRetO, tdRetN, tdIfS, tdAsg, tdPar, tdBreak, tdCont, tdFor, tdV, tdC, tdOp, tdB, tdT, tdNotT, tdAndT, tdOrT, tdAnd, tdOr, tdNot, tdIf, tdNeg, tdTup, tdLst, tdNil, tdCons, tdStar, tdMut, tdM1, tdSl, tdoN, tdoS, tdFmt, tdJs, tdgN, tdgT, tdgNil, tdgCons, pdE, pdV, pdNil, pdCons, getL, peek, frz, onB, onL, onT, owL, unowned, wipeD, tiL, tiT, tiS, tiV, tiR1, tiR2, tiE, tiZ, ttY, tdLc, pAdd, pMul, pII, pII0, pSS, pEq2, pIn2, pOrd, pIx2, pSl2, pSlL, pCat, pIsN, pLen, pI1, pI2, pInt, pStrI, pList, pTuple, pAll, pAny, pRepr, pJoin, pmAppend, pmExtend, pmPopAt, List.map_cons, List.map_nil, List.cons_append, List.nil_append, List.append_nil, List.length_cons, List.length_nil, List.getElem?_cons_zero, List.getElem?_cons_succ, List.set_cons_zero, List.set_cons_succ, List.replicate_succ, List.replicate_zero, Function.comp, Nat.reduceAdd, Nat.reduceSub, Nat.reduceLT, true_and, and_true, if_true, if_false, Bool.false_eq_true, ite_true, ite_false, Bool.not_true, Bool.not_false, reduceCtorEq, eqOk_str, eqOk_int, eqOk_bl, eqD_str, eqD_int, eqD_bl, decide_eq_true_eq, false_implies, true_implies, Option.some.injEq, exists_eq_left, exists_eq_left', exists_eq', or_false, false_or, eq_self, at0, at1, at2, at3, at4, D.str.injEq, D.int.injEq, D.bl.injEq, D.tup.injEq, D.lst.injEq, List.cons.injEq, Sl.fz.injEq, Sl.ow.injEq]
    have e1 : (Str.ofString ".").length = 1 := by decide
    have := wt.hi
    refine ⟨?_, fun i acc => acc = (vs.take i).map fun v => D.str (t ++ "." ++ v), rfl, fun i d acc e wi => ?_, fun acc wi => ?_⟩
    · cases e' with
      | none => trivial
      | some q =>
        cases q with
        | fz _ => trivial
        | ow d => exact ne d rfl
    · obtain ⟨v, hv, rfl⟩ := get_map e
      subst wi
      have := (gv v (List.mem_of_getElem? hv)).hi
      simp only [startD, tdSeq, tdNext, tdSet, tdSetO, tdDrop, tdRet, tdRetO, tdRetN, tdIfS, tdAsg, tdPar, tdBreak, tdCont, tdFor, tdV, tdC, tdOp, tdB, tdT, tdNotT, tdAndT, tdOrT, tdAnd, tdOr, tdNot, tdIf, tdNeg, tdTup, tdLst, tdNil, tdCons, tdStar, tdMut, tdM1, tdSl, tdoN, tdoS, tdFmt, tdJs, tdgN, tdgT, tdgNil, tdgCons, pdE, pdV, pdNil, pdCons, getL, peek, frz, onB, onL, onT, owL, unowned, wipeD, tiL, tiT, tiS, tiV, tiR1, tiR2, tiE, tiZ, ttY, tdLc, pAdd, pMul, pII, pII0, pSS, pEq2, pIn2, pOrd, pIx2, pSl2, pSlL, pCat, pIsN, pLen, pI1, pI2, pInt, pStrI, pList, pTuple, pAll, pAny, pRepr, pJoin, pmAppend, pmExtend, pmPopAt, List.map_cons, List.map_nil, List.cons_append, List.nil_append, List.append_nil, List.length_cons, List.length_nil, List.getElem?_cons_zero, List.getElem?_cons_succ, List.set_cons_zero, List.set_cons_succ, List.replicate_succ, List.replicate_zero, Function.comp, Nat.reduceAdd, Nat.reduceSub, Nat.reduceLT, true_and, and_true, if_true, if_false, Bool.false_eq_true, ite_true, ite_false, Bool.not_true, Bool.not_false, reduceCtorEq, eqOk_str, eqOk_int, eqOk_bl, eqD_str, eqD_int, eqD_bl, decide_eq_true_eq, false_implies, true_implies, Option.some.injEq, exists_eq_left, exists_eq_left', exists_eq', or_false, false_or, eq_self, at0, at1, at2, at3, at4, D.str.injEq, D.int.injEq, D.bl.injEq, D.tup.injEq, D.lst.injEq, List.cons.injEq, Sl.fz.injEq, Sl.ow.injEq, len_app]
      refine ⟨by omega, by omega, by rw [List.length_map, List.length_take]; omega, ?_⟩
      rw [take_map hv]
    · subst wi
      rw [take_mapall]
      refine ⟨⟨2, rfl, by decide⟩, fun d hd => ?_⟩
      obtain ⟨us, rfl, lu, gu⟩ := names_post (n := 2) hd
      refine ⟨by omega, by rw [List.length_map]; omega, ts ++ [⟨t, vs.map fun v => t ++ "." ++ v, us⟩], by rw [List.length_append, l]; rfl, fun x m => ?_, _, _, _, _, ⟨by rw [List.map_append]; simp only [List.map_cons, List.map_nil, Tb.D, List.map_map]; rfl, rfl, rfl, rfl, rfl⟩, ne⟩
      rcases List.mem_append.mp m with m | m
      · exact g x m
      · rw [List.mem_singleton.mp m]
        refine ⟨wt, fun e => ?_, by rw [List.length_map]; omega, fun r mr => ?_, lu, gu⟩
        · have := congrArg List.length e
          simp only [List.length_map, List.length_nil] at this
          omega
        · obtain ⟨v, mv, rfl⟩ := List.mem_map.mp mr
          exact ref_of wt (gv v mv)
  rintro _ ⟨ts, l, g, a, b, c, e, rfl⟩
  simp only [startD, tdSeq, tdNext, tdSet, tdSetO, tdDrop, tdRet, tdRetO, tdRetN, tdIfS, tdAsg, tdPar, tdBreak, tdCont, tdFor, tdV, tdC, tdOp, tdB, tdT, tdNotT, tdAndT, tdOrT, tdAnd, tdOr, tdNot, tdIf, tdNeg, tdTup, tdLst, tdNil, tdCons, tdStar, tdMut, tdM1, tdSl, tdoN, tdoS, tdFmt, tdJs, tdgN, tdgT, tdgNil, tdgCons, pdE, pdV, pdNil, pdCons, getL, peek, frz, onB, onL, onT, owL, unowned, wipeD, tiL, tiT, tiS, tiV, tiR1, tiR2, tiE, tiZ, ttY, tdLc, pAdd, pMul, pII, pII0, pSS, pEq2, pIn2, pOrd, pIx2, pSl2, pSlL, pCat, pIsN, pLen, pI1, pI2, pInt, pStrI, pList, pTuple, pAll, pAny, pRepr, pJoin, pmAppend, pmExtend, pmPopAt, List.map_cons, List.map_nil, List.cons_append, List.nil_append, List.append_nil, List.length_cons, List.length_nil, List.getElem?_cons_zero, List.getElem?_cons_succ, List.set_cons_zero, List.set_cons_succ, List.replicate_succ, List.replicate_zero, Function.comp, Nat.reduceAdd, Nat.reduceSub, Nat.reduceLT, true_and, and_true, if_true, if_false, Bool.false_eq_true, ite_true, ite_false, Bool.not_true, Bool.not_false, reduceCtorEq, eqOk_str, eqOk_int, eqOk_bl, eqD_str, eqD_int, eqD_bl, decide_eq_true_eq, false_implies, true_implies, Option.some.injEq, exists_eq_left, exists_eq_left', exists_eq', or_false, false_or, eq_self, at0, at1, at2, at3, at4, D.str.injEq, D.int.injEq, D.bl.injEq, D.tup.injEq, D.lst.injEq, List.cons.injEq, Sl.fz.injEq, Sl.ow.injEq, fsTables]
  exact ⟨ts, rfl, l, g⟩
end
end K96


set_option Elab.async false
set_option linter.all false
set_option maxRecDepth 100000
set_option maxHeartbeats 8000000
namespace K96
open PySem PySem.Spec L2 PSG PSS DL TL
open PyProof.Rows (IntsAre AllBare)

section
variable {P : Program} {w : World} {K : PySem.W.Frag} {mg : Str → Option Value} {base : Heap}
def Refs (rs : List Str) : Prop := ∀ r ∈ rs, Ref r
theorem shuf_refs {rs : List Str} (h : Refs rs) {d : D} (p : fsShuf.post [.pot, .lst (rs.map D.str)] d) : ∃ ys : List Str, d = .lst (ys.map D.str) ∧ ys.length = rs.length ∧ Refs ys := by
  obtain ⟨ys, rfl, l, m⟩ := shuf_post p
  have z : ∀ (ys : List D), (∀ y ∈ ys, y ∈ rs.map D.str) → ∃ zs : List Str, ys = zs.map D.str ∧ Refs zs := by
    intro ys
    induction ys with
    | nil => intro _; exact ⟨[], rfl, fun x m => nomatch m⟩
    | cons y r ih =>
      intro m
      obtain ⟨zs, rfl, g⟩ := ih fun x mx => m x (List.mem_cons_of_mem _ mx)
      obtain ⟨x, mx, rfl⟩ := List.mem_map.mp (m y List.mem_cons_self)
      refine ⟨x :: zs, rfl, fun a ma => ?_⟩
      rcases List.mem_cons.mp ma with rfl | ma
      · exact h _ mx
      · exact g a ma
  obtain ⟨zs, rfl, g⟩ := z ys m
  rw [List.length_map, List.length_map] at l
  exact ⟨zs, rfl, l, g⟩
/-- up or down, drawn -/
theorem dir_at {k : Int} (h0 : 0 ≤ k) (h1 : k < 2) : ∃ b : Bool, atI [D.str "up", D.str "down"] k = some (.str (dirS b)) := by
  have : k = 0 ∨ k = 1 := by omega
  rcases this with rfl | rfl
  · exact ⟨false, at0⟩
  · exact ⟨true, at1⟩
theorem cutD_min {xs : List D} {k : Nat} : cutD xs none (some (k : Int)) = xs.take k := by
  by_cases h : k ≤ xs.length
  · exact cutD_to h
  · unfold cutD
    have e : HT.sIx xs.length xs.length (some (k : Int)) = xs.length := by
      unfold HT.sIx
      simp only []
      split <;> omega
    rw [e]
    show (xs.drop 0).take (xs.length - 0) = _
    rw [List.drop_zero, Nat.sub_zero, List.take_length, List.take_of_length_le (by omega)]
def fsEO : FS where
  pre := fun ds => ∃ (rs : List Str) (n : Nat), ds = [.pot, .lst (rs.map D.str), .int n] ∧ rs.length ≤ 9 ∧ Refs rs ∧ 1 ≤ n ∧ n ≤ 6
  post := fun _ d => ∃ es : List En, d = .tup (es.map enD) ∧ es.length ≤ 8 ∧ ∀ e ∈ es, Ref e.1
theorem ok__law_entries_of {f : Addr} {fd : FuncData} {f0 : Addr} {d0 : FuncData} {f1 : Addr} {d1 : FuncData} (F : Fun K "_law_entries_of" "_law_entries_of" s__law_entries_of f fd) (T : Blt K mg)
    (F__law_shuffled : Fun K "_law_shuffled" "_law_shuffled" s__law_shuffled f0 d0) (b__law_shuffled : Binds K d0 ["_law_pot_here", "_law_some"] []) (g__law_shuffled : mg "_law_shuffled" = some (.ref f0)) (G__law_shuffled : FnG P w K mg base CX0 2 f0 d0 ["_law_pot_here", "_law_some"] (spD K 2 fsShuf))
    (F__law_draw : Fun K "_law_draw" "_law_draw" s__law_draw f1 d1) (b__law_draw : Binds K d1 ["_law_pot_here", "_law_many"] []) (g__law_draw : mg "_law_draw" = some (.ref f1)) (G__law_draw : FnG P w K mg base CX0 1 f1 d1 ["_law_pot_here", "_law_many"] (spD K 2 fsDraw)) : FnG P w K mg base CX0 3 f fd ["_law_pot_here", "_law_references", "_law_most"] (spD K 3 fsEO) := by
  have sc := sc__law_entries_of
  refine okD (k := 2) F sc fun X hX hr gd => ?_
  obtain ⟨cdv, A, outer, s, H, E, rfl⟩ := hX
  refine ⟨_, (dss_cut (ds_set (i := 3) sc.nd rfl (.inl rfl) (d_sl (DE.dp (de_call1 G__law_shuffled (hr.mono (by omega)) gd (by rfl) g__law_shuffled F__law_shuffled.kp b__law_shuffled (da_cons (de_v 0) (da_cons (de_v 1) da_nil)))) do_none (do_some (d_add (DE.dp de_int) (DE.dp (de_call1 G__law_draw (hr.mono (by omega)) gd (by rfl) g__law_draw F__law_draw.kp b__law_draw (da_cons (de_v 0) (da_cons (de_v 2) da_nil))))))))
      (dss_one (ds_ret (de_callTy call_tuple_of cd_tuple (by rfl) T.n_tuple (by decide +kernel) (dps_cons (DE.dp (de_lc (own := [("_law_one", 4)]) (by rfl) sc.nd (di_v 3) (blkOk_by (own := [("_law_one", 4)]) (N := ["_law_pot_here", "_law_references", "_law_most", "_law_picked", "_law_one"]) (sc := defScope s__law_entries_of) (by decide +kernel)) (fun _ _ _ _ _ => (dg_name (i := 4) sc.nd rfl (.inl rfl))) (fun _ _ _ _ _ => (de_tup (da_cons (de_v 4) (da_cons (d_ix (DE.dp (de_lst (da_cons de_str (da_cons de_str da_nil)))) (DE.dp (de_call1 G__law_draw (hr.mono (by omega)) gd (by rfl) g__law_draw F__law_draw.kp b__law_draw (da_cons (de_v 0) (da_cons de_int da_nil)))) (fun _ _ => rfl)) da_nil)))))) dps_nil))))), fun ds l pre => ?_⟩
  obtain ⟨rs, n, rfl, few, rf, n1, n6⟩ := pre
  have sl := sizeLine_eq
  refine ⟨fun δ => ∃ ps : List Str, ps.length ≤ 8 ∧ Refs ps ∧ δ = [some (.fz .pot), some (.fz (.lst (rs.map D.str))), some (.fz (.int n)), some (.fz (.lst (ps.map D.str))), none], ?_, ?_⟩
  · simp only [startD, tdSeq, tdNext, tdSet, tdSetO, tdDrop, tdRet, tdRetO, tdRetN, tdIfS, tdAsg, tdPar, tdBreak, tdCont, tdFor, tdV, tdC, tdOp, tdB, tdT, tdNotT, tdAndT, tdOrT, tdAnd, tdOr, tdNot, tdIf, tdNeg, tdTup, tdLst, tdNil, tdCons, tdStar, tdMut, tdM1, tdSl, tdoN, tdoS, tdFmt, tdJs, tdgN, tdgT, tdgNil, tdgCons, pdE, pdV, pdNil, pdCons, getL, peek, frz, onB, onL, onT, owL, unowned, wipeD, tiL, tiT, tiS, tiV, tiR1, tiR2, tiE, tiZ, ttY, tdLc, pAdd, pMul, pII, pII0, pSS, pEq2, pIn2, pOrd, pIx2, pSl2, pSlL, pCat, pIsN, pLen, pI1, pI2, pInt, pStrI, pList, pTuple, pAll, pAny, pRepr, pJoin, pmAppend, pmExtend, pmPopAt, List.map_cons, List.map_nil, List.cons_append, List.nil_append, List.append_nil, List.length_cons, List.length_nil, List.getElem?_cons_zero, List.getElem?_cons_succ, List.set_cons_zero, List.set_cons_succ, List.replicate_succ, List.replicate_zero, Function.comp, Nat.reduceAdd, Nat.reduceSub, Nat.reduceLT, true_and, and_true, if_true, if_false, Bool.false_eq_true, ite_true, ite_false, Bool.not_true, Bool.not_false, reduceCtorEq, eqOk_str, eqOk_int, eqOk_bl, eqD_str, eqD_int, eqD_bl, decide_eq_true_eq, false_implies, true_implies, Option.some.injEq, exists_eq_left, exists_eq_left', exists_eq', or_false, false_or, eq_self, at0, at1, at2, at3, at4, D.str.injEq, D.int.injEq, D.bl.injEq, D.tup.injEq, D.lst.injEq, List.cons.injEq, Sl.fz.injEq, Sl.ow.injEq, fsDraw]
    refine ⟨⟨_, rfl, by rw [List.length_map]; omega⟩, fun d hd => ⟨⟨by omega, by omega⟩, ?_⟩⟩
    obtain ⟨ys, rfl, ly, gy⟩ := shuf_refs rf hd
    rintro d ⟨k, rfl, h0, h1⟩
    obtain ⟨j, rfl⟩ : ∃ j : Nat, k = j := ⟨k.toNat, by omega⟩
    simp only [startD, tdSeq, tdNext, tdSet, tdSetO, tdDrop, tdRet, tdRetO, tdRetN, tdIfS, tdAsg, tdPar, tdBreak, tdCont, tdFor, tdV, tdC, tdOp, tdB, tdT, tdNotT, tdAndT, tdOrT, tdAnd, tdOr, tdNot, tdIf, tdNeg, tdTup, tdLst, tdNil, tdCons, tdStar, tdMut, tdM1, tdSl, tdoN, tdoS, tdFmt, tdJs, tdgN, tdgT, tdgNil, tdgCons, pdE, pdV, pdNil, pdCons, getL, peek, frz, onB, onL, onT, owL, unowned, wipeD, tiL, tiT, tiS, tiV, tiR1, tiR2, tiE, tiZ, ttY, tdLc, pAdd, pMul, pII, pII0, pSS, pEq2, pIn2, pOrd, pIx2, pSl2, pSlL, pCat, pIsN, pLen, pI1, pI2, pInt, pStrI, pList, pTuple, pAll, pAny, pRepr, pJoin, pmAppend, pmExtend, pmPopAt, List.map_cons, List.map_nil, List.cons_append, List.nil_append, List.append_nil, List.length_cons, List.length_nil, List.getElem?_cons_zero, List.getElem?_cons_succ, List.set_cons_zero, List.set_cons_succ, List.replicate_succ, List.replicate_zero, Function.comp, Nat.reduceAdd, Nat.reduceSub, Nat.reduceLT, true_and, and_true, if_true, if_false, Bool.false_eq_true, ite_true, ite_false, Bool.not_true, Bool.not_false, reduceCtorEq, eqOk_str, eqOk_int, eqOk_bl, eqD_str, eqD_int, eqD_bl, decide_eq_true_eq, false_implies, true_implies, Option.some.injEq, exists_eq_left, exists_eq_left', exists_eq', or_false, false_or, eq_self, at0, at1, at2, at3, at4, D.str.injEq, D.int.injEq, D.bl.injEq, D.tup.injEq, D.lst.injEq, List.cons.injEq, Sl.fz.injEq, Sl.ow.injEq]
    have e : (1 : Int) + (j : Int) = ((1 + j : Nat) : Int) := by omega
    rw [e, cutD_min, ← List.map_take]
    exact ⟨_, by rw [List.length_take]; omega, fun r m => gy r (List.mem_of_mem_take m), rfl⟩
  rintro _ ⟨ps, lp, gp, rfl⟩
  simp only [startD, tdSeq, tdNext, tdSet, tdSetO, tdDrop, tdRet, tdRetO, tdRetN, tdIfS, tdAsg, tdPar, tdBreak, tdCont, tdFor, tdV, tdC, tdOp, tdB, tdT, tdNotT, tdAndT, tdOrT, tdAnd, tdOr, tdNot, tdIf, tdNeg, tdTup, tdLst, tdNil, tdCons, tdStar, tdMut, tdM1, tdSl, tdoN, tdoS, tdFmt, tdJs, tdgN, tdgT, tdgNil, tdgCons, pdE, pdV, pdNil, pdCons, getL, peek, frz, onB, onL, onT, owL, unowned, wipeD, tiL, tiT, tiS, tiV, tiR1, tiR2, tiE, tiZ, ttY, tdLc, pAdd, pMul, pII, pII0, pSS, pEq2, pIn2, pOrd, pIx2, pSl2, pSlL, pCat, pIsN, pLen, pI1, pI2, pInt, pStrI, pList, pTuple, pAll, pAny, pRepr, pJoin, pmAppend, pmExtend, pmPopAt, List.map_cons, List.map_nil, List.cons_append, List.nil_append, List.append_nil, List.length_cons, List.length_nil, List.getElem?_cons_zero, List.getElem?_cons_succ, List.set_cons_zero, List.set_cons_succ, List.replicate_succ, List.replicate_zero, Function.comp, Nat.reduceAdd, Nat.reduceSub, Nat.reduceLT, true_and, and_true, if_true, if_false, Bool.false_eq_true, ite_true, ite_false, Bool.not_true, Bool.not_false, reduceCtorEq, eqOk_str, eqOk_int, eqOk_bl, eqD_str, eqD_int, eqD_bl, decide_eq_true_eq, false_implies, true_implies, Option.some.injEq, exists_eq_left, exists_eq_left', exists_eq', or_false, false_or, eq_self, at0, at1, at2, at3, at4, D.str.injEq, D.int.injEq, D.bl.injEq, D.tup.injEq, D.lst.injEq, List.cons.injEq, Sl.fz.injEq, Sl.ow.injEq, fsEO, fsDraw]
  refine ⟨fun i acc => ∃ es : List En, acc = es.map enD ∧ es.length = i ∧ ∀ e ∈ es, Ref e.1, ⟨[], rfl, rfl, fun e m => nomatch m⟩, fun i d acc e wi => ?_, fun acc ⟨es, e, l, g⟩ => ⟨es, e, by rw [List.length_map] at l; omega, g⟩⟩
  obtain ⟨x, hx, rfl⟩ := get_map e
  obtain ⟨es, rfl, l, g⟩ := wi
  have il := (List.getElem?_eq_some_iff.mp hx).1
  refine ⟨by omega, ⟨by decide, by decide +kernel⟩, ?_⟩
  rintro d ⟨k, rfl, h0, h1⟩
  obtain ⟨b, eb⟩ := dir_at h0 h1
  refine ⟨_, eb, by omega, by rw [List.length_map]; omega, es ++ [(x, b)], by rw [List.map_append]; rfl, by rw [List.length_append, l]; rfl, fun e m => ?_⟩
  rcases List.mem_append.mp m with m | m
  · exact g e m
  · rw [List.mem_singleton.mp m]
    exact gp x (List.mem_of_getElem? hx)
def fsSide : FS where
  pre := fun ds => ∃ t : Tb, ds = [.pot, t.D] ∧ t.Ok
  post := fun _ d => ∃ p : Pl, d = p.D ∧ p.Ok ∧ p.cnt ≤ 2
theorem fsSide_fr : fsSide.fr = false := rfl
theorem ok__law_side {f : Addr} {fd : FuncData} {f0 : Addr} {d0 : FuncData} {f1 : Addr} {d1 : FuncData} {f2 : Addr} {d2 : FuncData} (F : Fun K "_law_side" "_law_side" s__law_side f fd) (T : Blt K mg)
    (F__law_choice : Fun K "_law_choice" "_law_choice" s__law_choice f0 d0) (b__law_choice : Binds K d0 ["_law_pot_here", "_law_options"] []) (g__law_choice : mg "_law_choice" = some (.ref f0)) (G__law_choice : FnG P w K mg base CX0 2 f0 d0 ["_law_pot_here", "_law_options"] (spD K 2 fsChoice))
    (F__law_entries_of : Fun K "_law_entries_of" "_law_entries_of" s__law_entries_of f1 d1) (b__law_entries_of : Binds K d1 ["_law_pot_here", "_law_references", "_law_most"] []) (g__law_entries_of : mg "_law_entries_of" = some (.ref f1)) (G__law_entries_of : FnG P w K mg base CX0 3 f1 d1 ["_law_pot_here", "_law_references", "_law_most"] (spD K 3 fsEO))
    (F__law_draw : Fun K "_law_draw" "_law_draw" s__law_draw f2 d2) (b__law_draw : Binds K d2 ["_law_pot_here", "_law_many"] []) (g__law_draw : mg "_law_draw" = some (.ref f2)) (G__law_draw : FnG P w K mg base CX0 1 f2 d2 ["_law_pot_here", "_law_many"] (spD K 2 fsDraw)) : FnG P w K mg base CX0 4 f fd ["_law_pot_here", "_law_table"] (spD K 2 fsSide) := by
  have sc := sc__law_side
  refine okD (k := 3) F sc fun X hX hr gd => ?_
  obtain ⟨cdv, A, outer, s, H, E, rfl⟩ := hX
  refine ⟨_, (dss_cut (ds_set (i := 2) sc.nd rfl (.inl rfl) (de_call1 G__law_choice (hr.mono (by omega)) gd (by rfl) g__law_choice F__law_choice.kp b__law_choice (da_cons (de_v 0) (da_cons (de_lst (da_cons (de_tup (da_cons de_str (da_cons (d_ix (dp_v 1) (DE.dp de_int) (fun _ _ => rfl)) da_nil))) (da_cons (de_tup (da_cons de_str (da_cons (d_ix (dp_v 1) (DE.dp de_int) (fun _ _ => rfl)) (da_cons (de_call1 G__law_choice (hr.mono (by omega)) gd (by rfl) g__law_choice F__law_choice.kp b__law_choice (da_cons (de_v 0) (da_cons (d_ix (dp_v 1) (DE.dp de_int) (fun _ _ => rfl)) da_nil))) da_nil)))) da_nil))) da_nil))))
      (dss_cons (ds_if (dt_cmp o_gt r2_ord (DE.dp (de_call1 G__law_draw (hr.mono (by omega)) gd (by rfl) g__law_draw F__law_draw.kp b__law_draw (da_cons (de_v 0) (da_cons de_int da_nil)))) (DE.dp de_int) (by first | exact nomark _ | rfl)) (dss_one (ds_ret (de_v 2))) dss_nil)
      (dss_one (ds_ret (de_tup (da_cons de_str (da_cons (de_call1 G__law_entries_of (hr.mono (by omega)) gd (by rfl) g__law_entries_of F__law_entries_of.kp b__law_entries_of (da_cons (de_v 0) (da_cons (d_ix (dp_v 1) (DE.dp de_int) (fun _ _ => rfl)) (da_cons de_int da_nil)))) (da_cons (de_v 2) da_nil)))))))), fun ds l pre => ?_⟩
  obtain ⟨t, rfl, ok⟩ := pre
  have sl := sizeLine_eq
  have rl := ok.r1
  have rp : 1 ≤ t.rs.length := List.length_pos_iff.mpr ok.r0
  refine ⟨fun δ => ∃ p : Pl, p.cnt = 1 ∧ p.Ok ∧ δ = [some (.fz .pot), some (.fz t.D), some (.fz p.D)], ?_, ?_⟩
  · simp only [startD, tdSeq, tdNext, tdSet, tdSetO, tdDrop, tdRet, tdRetO, tdRetN, tdIfS, tdAsg, tdPar, tdBreak, tdCont, tdFor, tdV, tdC, tdOp, tdB, tdT, tdNotT, tdAndT, tdOrT, tdAnd, tdOr, tdNot, tdIf, tdNeg, tdTup, tdLst, tdNil, tdCons, tdStar, tdMut, tdM1, tdSl, tdoN, tdoS, tdFmt, tdJs, tdgN, tdgT, tdgNil, tdgCons, pdE, pdV, pdNil, pdCons, getL, peek, frz, onB, onL, onT, owL, unowned, wipeD, tiL, tiT, tiS, tiV, tiR1, tiR2, tiE, tiZ, ttY, tdLc, pAdd, pMul, pII, pII0, pSS, pEq2, pIn2, pOrd, pIx2, pSl2, pSlL, pCat, pIsN, pLen, pI1, pI2, pInt, pStrI, pList, pTuple, pAll, pAny, pRepr, pJoin, pmAppend, pmExtend, pmPopAt, List.map_cons, List.map_nil, List.cons_append, List.nil_append, List.append_nil, List.length_cons, List.length_nil, List.getElem?_cons_zero, List.getElem?_cons_succ, List.set_cons_zero, List.set_cons_succ, List.replicate_succ, List.replicate_zero, Function.comp, Nat.reduceAdd, Nat.reduceSub, Nat.reduceLT, true_and, and_true, if_true, if_false, Bool.false_eq_true, ite_true, ite_false, Bool.not_true, Bool.not_false, reduceCtorEq, eqOk_str, eqOk_int, eqOk_bl, eqD_str, eqD_int, eqD_bl, decide_eq_true_eq, false_implies, true_implies, Option.some.injEq, exists_eq_left, exists_eq_left', exists_eq', or_false, false_or, eq_self, at0, at1, at2, at3, at4, D.str.injEq, D.int.injEq, D.bl.injEq, D.tup.injEq, D.lst.injEq, List.cons.injEq, Sl.fz.injEq, Sl.ow.injEq, Tb.D]
    refine ⟨by omega, ⟨by rw [List.length_map, ok.i0]; decide, by rw [List.length_map, ok.i0]; decide⟩, fun d hd => ?_⟩
    obtain ⟨x, mx, rfl⟩ := List.mem_map.mp (show d ∈ t.ix.map D.str from hd)
    refine ⟨by omega, by omega, ⟨by show 1 ≤ 2; decide, by show 2 ≤ 1000; decide⟩, fun d hd => ?_⟩
    have hd : d ∈ [D.tup [.str "heap", .str t.t], .tup [.str "index", .str t.t, .str x]] := hd
    rcases List.mem_cons.mp hd with rfl | hd
    · exact ⟨.heap t.t, rfl, ok.t, rfl⟩
    · rw [List.mem_singleton.mp hd]
      exact ⟨.index t.t x, rfl, ⟨ok.t, ok.ix x mx⟩, rfl⟩
  rintro _ ⟨p, pc, po, rfl⟩
  simp only [startD, tdSeq, tdNext, tdSet, tdSetO, tdDrop, tdRet, tdRetO, tdRetN, tdIfS, tdAsg, tdPar, tdBreak, tdCont, tdFor, tdV, tdC, tdOp, tdB, tdT, tdNotT, tdAndT, tdOrT, tdAnd, tdOr, tdNot, tdIf, tdNeg, tdTup, tdLst, tdNil, tdCons, tdStar, tdMut, tdM1, tdSl, tdoN, tdoS, tdFmt, tdJs, tdgN, tdgT, tdgNil, tdgCons, pdE, pdV, pdNil, pdCons, getL, peek, frz, onB, onL, onT, owL, unowned, wipeD, tiL, tiT, tiS, tiV, tiR1, tiR2, tiE, tiZ, ttY, tdLc, pAdd, pMul, pII, pII0, pSS, pEq2, pIn2, pOrd, pIx2, pSl2, pSlL, pCat, pIsN, pLen, pI1, pI2, pInt, pStrI, pList, pTuple, pAll, pAny, pRepr, pJoin, pmAppend, pmExtend, pmPopAt, List.map_cons, List.map_nil, List.cons_append, List.nil_append, List.append_nil, List.length_cons, List.length_nil, List.getElem?_cons_zero, List.getElem?_cons_succ, List.set_cons_zero, List.set_cons_succ, List.replicate_succ, List.replicate_zero, Function.comp, Nat.reduceAdd, Nat.reduceSub, Nat.reduceLT, true_and, and_true, if_true, if_false, Bool.false_eq_true, ite_true, ite_false, Bool.not_true, Bool.not_false, reduceCtorEq, eqOk_str, eqOk_int, eqOk_bl, eqD_str, eqD_int, eqD_bl, decide_eq_true_eq, false_implies, true_implies, Option.some.injEq, exists_eq_left, exists_eq_left', exists_eq', or_false, false_or, eq_self, at0, at1, at2, at3, at4, D.str.injEq, D.int.injEq, D.bl.injEq, D.tup.injEq, D.lst.injEq, List.cons.injEq, Sl.fz.injEq, Sl.ow.injEq, Tb.D, fsDraw, fsSide_fr]
  refine ⟨⟨by omega, by decide +kernel⟩, ?_⟩
  rintro d ⟨k, rfl, h0, h1⟩
  simp only [startD, tdSeq, tdNext, tdSet, tdSetO, tdDrop, tdRet, tdRetO, tdRetN, tdIfS, tdAsg, tdPar, tdBreak, tdCont, tdFor, tdV, tdC, tdOp, tdB, tdT, tdNotT, tdAndT, tdOrT, tdAnd, tdOr, tdNot, tdIf, tdNeg, tdTup, tdLst, tdNil, tdCons, tdStar, tdMut, tdM1, tdSl, tdoN, tdoS, tdFmt, tdJs, tdgN, tdgT, tdgNil, tdgCons, pdE, pdV, pdNil, pdCons, getL, peek, frz, onB, onL, onT, owL, unowned, wipeD, tiL, tiT, tiS, tiV, tiR1, tiR2, tiE, tiZ, ttY, tdLc, pAdd, pMul, pII, pII0, pSS, pEq2, pIn2, pOrd, pIx2, pSl2, pSlL, pCat, pIsN, pLen, pI1, pI2, pInt, pStrI, pList, pTuple, pAll, pAny, pRepr, pJoin, pmAppend, pmExtend, pmPopAt, List.map_cons, List.map_nil, List.cons_append, List.nil_append, List.append_nil, List.length_cons, List.length_nil, List.getElem?_cons_zero, List.getElem?_cons_succ, List.set_cons_zero, List.set_cons_succ, List.replicate_succ, List.replicate_zero, Function.comp, Nat.reduceAdd, Nat.reduceSub, Nat.reduceLT, true_and, and_true, if_true, if_false, Bool.false_eq_true, ite_true, ite_false, Bool.not_true, Bool.not_false, reduceCtorEq, eqOk_str, eqOk_int, eqOk_bl, eqD_str, eqD_int, eqD_bl, decide_eq_true_eq, false_implies, true_implies, Option.some.injEq, exists_eq_left, exists_eq_left', exists_eq', or_false, false_or, eq_self, at0, at1, at2, at3, at4, D.str.injEq, D.int.injEq, D.bl.injEq, D.tup.injEq, D.lst.injEq, List.cons.injEq, Sl.fz.injEq, Sl.ow.injEq, fsSide_fr]
  split
  · exact ⟨p, rfl, po, by omega⟩
  · refine ⟨⟨t.rs, 3, rfl, by omega, ok.rs, by omega, by omega⟩, fun d hd => ⟨by omega, ?_⟩⟩
    obtain ⟨es, rfl, l, g⟩ := hd
    exact ⟨.sort es p, rfl, ⟨⟨l, g⟩, po⟩, by show p.cnt + 1 ≤ 2; omega⟩
theorem zp_inv {ds es : List D} {i : Nat} {d : D} (h : (zp ds es)[i]? = some d) : ∃ a b, ds[i]? = some a ∧ es[i]? = some b ∧ d = .tup [a, b] := by
  unfold zp at h
  rw [List.getElem?_zipWith] at h
  cases e1 : ds[i]? with
  | none => rw [e1] at h; cases h
  | some a =>
    cases e2 : es[i]? with
    | none => rw [e1, e2] at h; cases h
    | some b => rw [e1, e2] at h; cases h; exact ⟨a, b, rfl, rfl, rfl⟩
theorem for_open {ti : TId} {g : TGd} {tb : TSd} {N : Dn} {δ : DSt} (h : ∀ g' tb', g' = g → tb' = tb → tdFor ti g' tb' N δ) : tdFor ti g tb N δ := h g tb rfl rfl
def fsMore : FS where
  pre := fun ds => ∃ (p : Pl) (rs : List Str) (t : Tb), ds = [.pot, p.D, .lst (rs.map D.str), t.D] ∧ p.Ok ∧ p.cnt ≤ 20 ∧ rs ≠ [] ∧ rs.length ≤ 9 ∧ Refs rs ∧ t.Ok
  post := fun ds d => ∃ (p : Pl) (r : D) (t : D), ds = [.pot, p.D, r, t] ∧ ∃ q : Pl, d = q.D ∧ q.Ok ∧ q.cnt ≤ p.cnt + 3
theorem more_post {p : Pl} {r t d : D} (h : fsMore.post [.pot, p.D, r, t] d) : ∃ q : Pl, d = q.D ∧ q.Ok ∧ q.cnt ≤ p.cnt + 3 := by
  obtain ⟨p', r', t', e, z⟩ := h
  rw [pl_inj (List.cons.inj (List.cons.inj e).2).1]
  exact z
theorem fsMore_fr : fsMore.fr = false := rfl
theorem ok__law_more {f : Addr} {fd : FuncData} {f0 : Addr} {d0 : FuncData} {f1 : Addr} {d1 : FuncData} {f2 : Addr} {d2 : FuncData} {f3 : Addr} {d3 : FuncData} (F : Fun K "_law_more" "_law_more" s__law_more f fd) (T : Blt K mg)
    (F__law_draw : Fun K "_law_draw" "_law_draw" s__law_draw f0 d0) (b__law_draw : Binds K d0 ["_law_pot_here", "_law_many"] []) (g__law_draw : mg "_law_draw" = some (.ref f0)) (G__law_draw : FnG P w K mg base CX0 1 f0 d0 ["_law_pot_here", "_law_many"] (spD K 2 fsDraw))
    (F__law_choice : Fun K "_law_choice" "_law_choice" s__law_choice f1 d1) (b__law_choice : Binds K d1 ["_law_pot_here", "_law_options"] []) (g__law_choice : mg "_law_choice" = some (.ref f1)) (G__law_choice : FnG P w K mg base CX0 2 f1 d1 ["_law_pot_here", "_law_options"] (spD K 2 fsChoice))
    (F__law_shuffled : Fun K "_law_shuffled" "_law_shuffled" s__law_shuffled f2 d2) (b__law_shuffled : Binds K d2 ["_law_pot_here", "_law_some"] []) (g__law_shuffled : mg "_law_shuffled" = some (.ref f2)) (G__law_shuffled : FnG P w K mg base CX0 2 f2 d2 ["_law_pot_here", "_law_some"] (spD K 2 fsShuf))
    (F__law_side : Fun K "_law_side" "_law_side" s__law_side f3 d3) (b__law_side : Binds K d3 ["_law_pot_here", "_law_table"] []) (g__law_side : mg "_law_side" = some (.ref f3)) (G__law_side : FnG P w K mg base CX0 4 f3 d3 ["_law_pot_here", "_law_table"] (spD K 2 fsSide)) : FnG P w K mg base CX0 5 f fd ["_law_pot_here", "_law_tree", "_law_references", "_law_table"] (spD K 4 fsMore) := by
  have sc := sc__law_more
  refine okD (k := 4) F sc fun X hX hr gd => ?_
  obtain ⟨cdv, A, outer, s, H, E, rfl⟩ := hX
  refine ⟨_, (dss_cut (ds_if (dt_cmp (o_eq hr) r2_Eq (DE.dp (de_call1 G__law_draw (hr.mono (by omega)) gd (by rfl) g__law_draw F__law_draw.kp b__law_draw (da_cons (de_v 0) (da_cons de_int da_nil)))) (DE.dp de_int) (by first | exact nomark _ | rfl)) (dss_one (ds_ret (de_tup (da_cons de_str (da_cons (de_v 1) (da_cons (d_ix (dp_v 3) (DE.dp de_int) (fun _ _ => rfl)) (da_cons (de_call1 G__law_choice (hr.mono (by omega)) gd (by rfl) g__law_choice F__law_choice.kp b__law_choice (da_cons (de_v 0) (da_cons (d_ix (dp_v 3) (DE.dp de_int) (fun _ _ => rfl)) da_nil))) (da_cons (d_add (DE.dp de_int) (DE.dp (de_call1 G__law_draw (hr.mono (by omega)) gd (by rfl) g__law_draw F__law_draw.kp b__law_draw (da_cons (de_v 0) (da_cons de_int da_nil))))) da_nil)))))))) dss_nil)
      (dss_cut (ds_par (i := 4) (j := 5) (o1 := true) (o2 := false) (by rfl) sc.nd rfl rfl (by decide) rfl rfl (de_lst da_nil) (DE.weak (d_add (DE.dp de_int) (DE.dp (de_call1 G__law_draw (hr.mono (by omega)) gd (by rfl) g__law_draw F__law_draw.kp b__law_draw (da_cons (de_v 0) (da_cons de_int da_nil)))))) (by rfl))
      (dss_cut (ds_for PassesOwn.never (by rfl) (di_zip (by rfl) T.n_zip (da_cons (d_sl (DE.dp (de_call1 G__law_shuffled (hr.mono (by omega)) gd (by rfl) g__law_shuffled F__law_shuffled.kp b__law_shuffled (da_cons (de_v 0) (da_cons (de_v 2) da_nil)))) do_none (do_some (de_v 5))) (da_cons (de_call1 G__law_shuffled (hr.mono (by omega)) gd (by rfl) g__law_shuffled F__law_shuffled.kp b__law_shuffled (da_cons (de_v 0) (da_cons (d_ix (dp_v 3) (DE.dp de_int) (fun _ _ => rfl)) da_nil))) da_nil))) (dg_tup (n := 2) (by rfl) (dgs_cons (dg_name (i := 6) sc.nd rfl (.inl rfl)) (dgs_cons (dg_name (i := 7) sc.nd rfl (.inl rfl)) dgs_nil))) (dss_one (ds_expr (de_mut 4 PySem.F.slot_list_append PySem.F.type_list_append mt_append mut_append (da_cons (de_tup (da_cons (de_v 6) (da_cons (de_v 7) (da_cons (d_ix (DE.dp (de_lst (da_cons de_str (da_cons de_str da_nil)))) (DE.dp (de_call1 G__law_draw (hr.mono (by omega)) gd (by rfl) g__law_draw F__law_draw.kp b__law_draw (da_cons (de_v 0) (da_cons de_int da_nil)))) (fun _ _ => rfl)) da_nil)))) da_nil)))))
      (dss_one (ds_ret (de_tup (da_cons de_str (da_cons (de_callTy call_tuple_of cd_tuple (by rfl) T.n_tuple (by decide +kernel) (dps_cons (dp_v 4) dps_nil)) (da_cons (de_v 1) (da_cons (de_call1 G__law_side (hr.mono (by omega)) gd (by rfl) g__law_side F__law_side.kp b__law_side (da_cons (de_v 0) (da_cons (de_v 3) da_nil))) da_nil)))))))))), fun ds l pre => ?_⟩
  obtain ⟨p, rs, t, rfl, po, pc, r0, r9, rf, ok⟩ := pre
  have sl := sizeLine_eq
  have rl := ok.r1
  have rp : 1 ≤ t.rs.length := List.length_pos_iff.mpr ok.r0
  have rp2 : 1 ≤ rs.length := List.length_pos_iff.mpr r0
  refine ⟨fun δ => δ = [some (.fz .pot), some (.fz p.D), some (.fz (.lst (rs.map D.str))), some (.fz t.D), none, none, none, none], ?_, ?_⟩
  · simp only [startD, tdSeq, tdNext, tdSet, tdSetO, tdDrop, tdRet, tdRetO, tdRetN, tdIfS, tdAsg, tdPar, tdBreak, tdCont, tdFor, tdV, tdC, tdOp, tdB, tdT, tdNotT, tdAndT, tdOrT, tdAnd, tdOr, tdNot, tdIf, tdNeg, tdTup, tdLst, tdNil, tdCons, tdStar, tdMut, tdM1, tdSl, tdoN, tdoS, tdFmt, tdJs, tdgN, tdgT, tdgNil, tdgCons, pdE, pdV, pdNil, pdCons, getL, peek, frz, onB, onL, onT, owL, unowned, wipeD, tiL, tiT, tiS, tiV, tiR1, tiR2, tiE, tiZ, ttY, tdLc, pAdd, pMul, pII, pII0, pSS, pEq2, pIn2, pOrd, pIx2, pSl2, pSlL, pCat, pIsN, pLen, pI1, pI2, pInt, pStrI, pList, pTuple, pAll, pAny, pRepr, pJoin, pmAppend, pmExtend, pmPopAt, List.map_cons, List.map_nil, List.cons_append, List.nil_append, List.append_nil, List.length_cons, List.length_nil, List.getElem?_cons_zero, List.getElem?_cons_succ, List.set_cons_zero, List.set_cons_succ, List.replicate_succ, List.replicate_zero, Function.comp, Nat.reduceAdd, Nat.reduceSub, Nat.reduceLT, true_and, and_true, if_true, if_false, Bool.false_eq_true, ite_true, ite_false, Bool.not_true, Bool.not_false, reduceCtorEq, eqOk_str, eqOk_int, eqOk_bl, eqD_str, eqD_int, eqD_bl, decide_eq_true_eq, false_implies, true_implies, Option.some.injEq, exists_eq_left, exists_eq_left', exists_eq', or_false, false_or, eq_self, at0, at1, at2, at3, at4, D.str.injEq, D.int.injEq, D.bl.injEq, D.tup.injEq, D.lst.injEq, List.cons.injEq, Sl.fz.injEq, Sl.ow.injEq, Tb.D, fsMore_fr, fsDraw]
    refine ⟨⟨by omega, by decide +kernel⟩, ?_⟩
    rintro d ⟨k, rfl, h0, h1⟩
    simp only [startD, tdSeq, tdNext, tdSet, tdSetO, tdDrop, tdRet, tdRetO, tdRetN, tdIfS, tdAsg, tdPar, tdBreak, tdCont, tdFor, tdV, tdC, tdOp, tdB, tdT, tdNotT, tdAndT, tdOrT, tdAnd, tdOr, tdNot, tdIf, tdNeg, tdTup, tdLst, tdNil, tdCons, tdStar, tdMut, tdM1, tdSl, tdoN, tdoS, tdFmt, tdJs, tdgN, tdgT, tdgNil, tdgCons, pdE, pdV, pdNil, pdCons, getL, peek, frz, onB, onL, onT, owL, unowned, wipeD, tiL, tiT, tiS, tiV, tiR1, tiR2, tiE, tiZ, ttY, tdLc, pAdd, pMul, pII, pII0, pSS, pEq2, pIn2, pOrd, pIx2, pSl2, pSlL, pCat, pIsN, pLen, pI1, pI2, pInt, pStrI, pList, pTuple, pAll, pAny, pRepr, pJoin, pmAppend, pmExtend, pmPopAt, List.map_cons, List.map_nil, List.cons_append, List.nil_append, List.append_nil, List.length_cons, List.length_nil, List.getElem?_cons_zero, List.getElem?_cons_succ, List.set_cons_zero, List.set_cons_succ, List.replicate_succ, List.replicate_zero, Function.comp, Nat.reduceAdd, Nat.reduceSub, Nat.reduceLT, true_and, and_true, if_true, if_false, Bool.false_eq_true, ite_true, ite_false, Bool.not_true, Bool.not_false, reduceCtorEq, eqOk_str, eqOk_int, eqOk_bl, eqD_str, eqD_int, eqD_bl, decide_eq_true_eq, false_implies, true_implies, Option.some.injEq, exists_eq_left, exists_eq_left', exists_eq', or_false, false_or, eq_self, at0, at1, at2, at3, at4, D.str.injEq, D.int.injEq, D.bl.injEq, D.tup.injEq, D.lst.injEq, List.cons.injEq, Sl.fz.injEq, Sl.ow.injEq]
    split
    · refine ⟨⟨by rw [List.length_map, ok.i0]; decide, by rw [List.length_map, ok.i0]; decide⟩, fun d hd => ⟨⟨by omega, by decide +kernel⟩, ?_⟩⟩
      obtain ⟨x, mx, rfl⟩ := List.mem_map.mp (show d ∈ t.ix.map D.str from hd)
      rintro d ⟨j, rfl, h2, h3⟩
      simp only [startD, tdSeq, tdNext, tdSet, tdSetO, tdDrop, tdRet, tdRetO, tdRetN, tdIfS, tdAsg, tdPar, tdBreak, tdCont, tdFor, tdV, tdC, tdOp, tdB, tdT, tdNotT, tdAndT, tdOrT, tdAnd, tdOr, tdNot, tdIf, tdNeg, tdTup, tdLst, tdNil, tdCons, tdStar, tdMut, tdM1, tdSl, tdoN, tdoS, tdFmt, tdJs, tdgN, tdgT, tdgNil, tdgCons, pdE, pdV, pdNil, pdCons, getL, peek, frz, onB, onL, onT, owL, unowned, wipeD, tiL, tiT, tiS, tiV, tiR1, tiR2, tiE, tiZ, ttY, tdLc, pAdd, pMul, pII, pII0, pSS, pEq2, pIn2, pOrd, pIx2, pSl2, pSlL, pCat, pIsN, pLen, pI1, pI2, pInt, pStrI, pList, pTuple, pAll, pAny, pRepr, pJoin, pmAppend, pmExtend, pmPopAt, List.map_cons, List.map_nil, List.cons_append, List.nil_append, List.append_nil, List.length_cons, List.length_nil, List.getElem?_cons_zero, List.getElem?_cons_succ, List.set_cons_zero, List.set_cons_succ, List.replicate_succ, List.replicate_zero, Function.comp, Nat.reduceAdd, Nat.reduceSub, Nat.reduceLT, true_and, and_true, if_true, if_false, Bool.false_eq_true, ite_true, ite_false, Bool.not_true, Bool.not_false, reduceCtorEq, eqOk_str, eqOk_int, eqOk_bl, eqD_str, eqD_int, eqD_bl, decide_eq_true_eq, false_implies, true_implies, Option.some.injEq, exists_eq_left, exists_eq_left', exists_eq', or_false, false_or, eq_self, at0, at1, at2, at3, at4, D.str.injEq, D.int.injEq, D.bl.injEq, D.tup.injEq, D.lst.injEq, List.cons.injEq, Sl.fz.injEq, Sl.ow.injEq]
      exact ⟨by omega, p, _, _, rfl, .seek p t.t x (1 + j), rfl, ⟨po, ok.t, ok.ix x mx, by omega, by omega⟩, by show p.cnt + 1 ≤ _; omega⟩
    · trivial
  rintro _ rfl
  refine ⟨fun δ => ∃ m : Nat, 1 ≤ m ∧ m ≤ 3 ∧ δ = [some (.fz .pot), some (.fz p.D), some (.fz (.lst (rs.map D.str))), some (.fz t.D), some (.ow (.lst [])), some (.fz (.int m)), none, none], ?_, ?_⟩
  · simp only [startD, tdSeq, tdNext, tdSet, tdSetO, tdDrop, tdRet, tdRetO, tdRetN, tdIfS, tdAsg, tdPar, tdBreak, tdCont, tdFor, tdV, tdC, tdOp, tdB, tdT, tdNotT, tdAndT, tdOrT, tdAnd, tdOr, tdNot, tdIf, tdNeg, tdTup, tdLst, tdNil, tdCons, tdStar, tdMut, tdM1, tdSl, tdoN, tdoS, tdFmt, tdJs, tdgN, tdgT, tdgNil, tdgCons, pdE, pdV, pdNil, pdCons, getL, peek, frz, onB, onL, onT, owL, unowned, wipeD, tiL, tiT, tiS, tiV, tiR1, tiR2, tiE, tiZ, ttY, tdLc, pAdd, pMul, pII, pII0, pSS, pEq2, pIn2, pOrd, pIx2, pSl2, pSlL, pCat, pIsN, pLen, pI1, pI2, pInt, pStrI, pList, pTuple, pAll, pAny, pRepr, pJoin, pmAppend, pmExtend, pmPopAt, List.map_cons, List.map_nil, List.cons_append, List.nil_append, List.append_nil, List.length_cons, List.length_nil, List.getElem?_cons_zero, List.getElem?_cons_succ, List.set_cons_zero, List.set_cons_succ, List.replicate_succ, List.replicate_zero, Function.comp, Nat.reduceAdd, Nat.reduceSub, Nat.reduceLT, true_and, and_true, if_true, if_false, Bool.false_eq_true, ite_true, ite_false, Bool.not_true, Bool.not_false, reduceCtorEq, eqOk_str, eqOk_int, eqOk_bl, eqD_str, eqD_int, eqD_bl, decide_eq_true_eq, false_implies, true_implies, Option.some.injEq, exists_eq_left, exists_eq_left', exists_eq', or_false, false_or, eq_self, at0, at1, at2, at3, at4, D.str.injEq, D.int.injEq, D.bl.injEq, D.tup.injEq, D.lst.injEq, List.cons.injEq, Sl.fz.injEq, Sl.ow.injEq, fsDraw]
    refine ⟨by omega, ⟨by omega, by decide +kernel⟩, ?_⟩
    rintro d ⟨k, rfl, h0, h1⟩
    simp only [startD, tdSeq, tdNext, tdSet, tdSetO, tdDrop, tdRet, tdRetO, tdRetN, tdIfS, tdAsg, tdPar, tdBreak, tdCont, tdFor, tdV, tdC, tdOp, tdB, tdT, tdNotT, tdAndT, tdOrT, tdAnd, tdOr, tdNot, tdIf, tdNeg, tdTup, tdLst, tdNil, tdCons, tdStar, tdMut, tdM1, tdSl, tdoN, tdoS, tdFmt, tdJs, tdgN, tdgT, tdgNil, tdgCons, pdE, pdV, pdNil, pdCons, getL, peek, frz, onB, onL, onT, owL, unowned, wipeD, tiL, tiT, tiS, tiV, tiR1, tiR2, tiE, tiZ, ttY, tdLc, pAdd, pMul, pII, pII0, pSS, pEq2, pIn2, pOrd, pIx2, pSl2, pSlL, pCat, pIsN, pLen, pI1, pI2, pInt, pStrI, pList, pTuple, pAll, pAny, pRepr, pJoin, pmAppend, pmExtend, pmPopAt, List.map_cons, List.map_nil, List.cons_append, List.nil_append, List.append_nil, List.length_cons, List.length_nil, List.getElem?_cons_zero, List.getElem?_cons_succ, List.set_cons_zero, List.set_cons_succ, List.replicate_succ, List.replicate_zero, Function.comp, Nat.reduceAdd, Nat.reduceSub, Nat.reduceLT, true_and, and_true, if_true, if_false, Bool.false_eq_true, ite_true, ite_false, Bool.not_true, Bool.not_false, reduceCtorEq, eqOk_str, eqOk_int, eqOk_bl, eqD_str, eqD_int, eqD_bl, decide_eq_true_eq, false_implies, true_implies, Option.some.injEq, exists_eq_left, exists_eq_left', exists_eq', or_false, false_or, eq_self, at0, at1, at2, at3, at4, D.str.injEq, D.int.injEq, D.bl.injEq, D.tup.injEq, D.lst.injEq, List.cons.injEq, Sl.fz.injEq, Sl.ow.injEq]
    exact ⟨(1 + k).toNat, by omega, by omega, by omega⟩
  rintro _ ⟨m, m1, m3, rfl⟩
  refine ⟨fun δ => ∃ ps : List Pr, ps.length ≤ 3 ∧ ps ≠ [] ∧ (∀ e ∈ ps, Ref e.1 ∧ Ref e.2.1) ∧ ∃ a b, δ = [some (.fz .pot), some (.fz p.D), some (.fz (.lst (rs.map D.str))), some (.fz t.D), some (.ow (.lst (ps.map prD))), some (.fz (.int m)), a, b], ?_, ?_⟩
  · refine for_open fun gg tb hg hb => ?_
    simp only [startD, tdSeq, tdNext, tdSet, tdSetO, tdDrop, tdRet, tdRetO, tdRetN, tdIfS, tdAsg, tdPar, tdBreak, tdCont, tdFor, tdV, tdC, tdOp, tdB, tdT, tdNotT, tdAndT, tdOrT, tdAnd, tdOr, tdNot, tdIf, tdNeg, tdTup, tdLst, tdNil, tdCons, tdStar, tdMut, tdM1, tdSl, tdoN, tdoS, tdFmt, tdJs, tdgN, tdgT, tdgNil, tdgCons, pdE, pdV, pdNil, pdCons, getL, peek, frz, onB, onL, onT, owL, unowned, wipeD, tiL, tiT, tiS, tiV, tiR1, tiR2, tiE, tiZ, ttY, tdLc, pAdd, pMul, pII, pII0, pSS, pEq2, pIn2, pOrd, pIx2, pSl2, pSlL, pCat, pIsN, pLen, pI1, pI2, pInt, pStrI, pList, pTuple, pAll, pAny, pRepr, pJoin, pmAppend, pmExtend, pmPopAt, List.map_cons, List.map_nil, List.cons_append, List.nil_append, List.append_nil, List.length_cons, List.length_nil, List.getElem?_cons_zero, List.getElem?_cons_succ, List.set_cons_zero, List.set_cons_succ, List.replicate_succ, List.replicate_zero, Function.comp, Nat.reduceAdd, Nat.reduceSub, Nat.reduceLT, true_and, and_true, if_true, if_false, Bool.false_eq_true, ite_true, ite_false, Bool.not_true, Bool.not_false, reduceCtorEq, eqOk_str, eqOk_int, eqOk_bl, eqD_str, eqD_int, eqD_bl, decide_eq_true_eq, false_implies, true_implies, Option.some.injEq, exists_eq_left, exists_eq_left', exists_eq', or_false, false_or, eq_self, at0, at1, at2, at3, at4, D.str.injEq, D.int.injEq, D.bl.injEq, D.tup.injEq, D.lst.injEq, List.cons.injEq, Sl.fz.injEq, Sl.ow.injEq, Tb.D]
    refine ⟨⟨_, rfl, by rw [List.length_map]; omega⟩, fun d hd => ?_⟩
    obtain ⟨xs, rfl, lx, gx⟩ := shuf_refs rf hd
    refine ⟨⟨_, rfl, by rw [List.length_map]; omega⟩, fun d hd => ?_⟩
    obtain ⟨ys, rfl, ly, gy⟩ := shuf_refs ok.rs hd
    simp only [startD, tdSeq, tdNext, tdSet, tdSetO, tdDrop, tdRet, tdRetO, tdRetN, tdIfS, tdAsg, tdPar, tdBreak, tdCont, tdFor, tdV, tdC, tdOp, tdB, tdT, tdNotT, tdAndT, tdOrT, tdAnd, tdOr, tdNot, tdIf, tdNeg, tdTup, tdLst, tdNil, tdCons, tdStar, tdMut, tdM1, tdSl, tdoN, tdoS, tdFmt, tdJs, tdgN, tdgT, tdgNil, tdgCons, pdE, pdV, pdNil, pdCons, getL, peek, frz, onB, onL, onT, owL, unowned, wipeD, tiL, tiT, tiS, tiV, tiR1, tiR2, tiE, tiZ, ttY, tdLc, pAdd, pMul, pII, pII0, pSS, pEq2, pIn2, pOrd, pIx2, pSl2, pSlL, pCat, pIsN, pLen, pI1, pI2, pInt, pStrI, pList, pTuple, pAll, pAny, pRepr, pJoin, pmAppend, pmExtend, pmPopAt, List.map_cons, List.map_nil, List.cons_append, List.nil_append, List.append_nil, List.length_cons, List.length_nil, List.getElem?_cons_zero, List.getElem?_cons_succ, List.set_cons_zero, List.set_cons_succ, List.replicate_succ, List.replicate_zero, Function.comp, Nat.reduceAdd, Nat.reduceSub, Nat.reduceLT, true_and, and_true, if_true, if_false, Bool.false_eq_true, ite_true, ite_false, Bool.not_true, Bool.not_false, reduceCtorEq, eqOk_str, eqOk_int, eqOk_bl, eqD_str, eqD_int, eqD_bl, decide_eq_true_eq, false_implies, true_implies, Option.some.injEq, exists_eq_left, exists_eq_left', exists_eq', or_false, false_or, eq_self, at0, at1, at2, at3, at4, D.str.injEq, D.int.injEq, D.bl.injEq, D.tup.injEq, D.lst.injEq, List.cons.injEq, Sl.fz.injEq, Sl.ow.injEq]
    rw [cutD_min, ← List.map_take]
    refine ⟨fun i δ => ∃ ps : List Pr, ps.length = i ∧ (∀ e ∈ ps, Ref e.1 ∧ Ref e.2.1) ∧ ∃ a b, δ = [some (.fz .pot), some (.fz p.D), some (.fz (.lst (rs.map D.str))), some (.fz t.D), some (.ow (.lst (ps.map prD))), some (.fz (.int m)), a, b], ⟨[], rfl, (fun e m => nomatch m), none, none, rfl⟩, fun i d δ e ⟨ps, l, g, a, b, eδ⟩ => ?_, fun δ ⟨ps, l, g, a, b, eδ⟩ => ?_⟩
    · obtain ⟨x, y, e1, e2, rfl⟩ := zp_inv e
      obtain ⟨x, e4, rfl⟩ := get_map e1
      obtain ⟨y, e3, rfl⟩ := get_map e2
      have il := (List.getElem?_eq_some_iff.mp e3).1
      have il : i < ys.length := il
      subst hg hb eδ
      simp only [startD, tdSeq, tdNext, tdSet, tdSetO, tdDrop, tdRet, tdRetO, tdRetN, tdIfS, tdAsg, tdPar, tdBreak, tdCont, tdFor, tdV, tdC, tdOp, tdB, tdT, tdNotT, tdAndT, tdOrT, tdAnd, tdOr, tdNot, tdIf, tdNeg, tdTup, tdLst, tdNil, tdCons, tdStar, tdMut, tdM1, tdSl, tdoN, tdoS, tdFmt, tdJs, tdgN, tdgT, tdgNil, tdgCons, pdE, pdV, pdNil, pdCons, getL, peek, frz, onB, onL, onT, owL, unowned, wipeD, tiL, tiT, tiS, tiV, tiR1, tiR2, tiE, tiZ, ttY, tdLc, pAdd, pMul, pII, pII0, pSS, pEq2, pIn2, pOrd, pIx2, pSl2, pSlL, pCat, pIsN, pLen, pI1, pI2, pInt, pStrI, pList, pTuple, pAll, pAny, pRepr, pJoin, pmAppend, pmExtend, pmPopAt, List.map_cons, List.map_nil, List.cons_append, List.nil_append, List.append_nil, List.length_cons, List.length_nil, List.getElem?_cons_zero, List.getElem?_cons_succ, List.set_cons_zero, List.set_cons_succ, List.replicate_succ, List.replicate_zero, Function.comp, Nat.reduceAdd, Nat.reduceSub, Nat.reduceLT, true_and, and_true, if_true, if_false, Bool.false_eq_true, ite_true, ite_false, Bool.not_true, Bool.not_false, reduceCtorEq, eqOk_str, eqOk_int, eqOk_bl, eqD_str, eqD_int, eqD_bl, decide_eq_true_eq, false_implies, true_implies, Option.some.injEq, exists_eq_left, exists_eq_left', exists_eq', or_false, false_or, eq_self, at0, at1, at2, at3, at4, D.str.injEq, D.int.injEq, D.bl.injEq, D.tup.injEq, D.lst.injEq, List.cons.injEq, Sl.fz.injEq, Sl.ow.injEq, fsDraw]
      refine ⟨by omega, ⟨by decide, by decide +kernel⟩, ?_⟩
      rintro d ⟨k, rfl, h0, h1⟩
      obtain ⟨bb, eb⟩ := dir_at h0 h1
      have ll : ps.length ≤ 3 := by omega
      refine ⟨_, eb, by omega, by rw [List.length_map]; omega, ps ++ [(x, y, bb)], by rw [List.length_append, l]; rfl, fun e m => ?_, _, _, by rw [List.map_append]; rfl, rfl, rfl⟩
      rcases List.mem_append.mp m with m | m
      · exact g e m
      · rw [List.mem_singleton.mp m]
        exact ⟨gx x (List.mem_of_mem_take (List.mem_of_getElem? e4)), gy y (List.mem_of_getElem? e3)⟩
    · rw [zp_length, List.length_map, List.length_map, List.length_take] at l
      exact ⟨ps, by omega, (fun e => by rw [e, List.length_nil] at l; omega), g, a, b, eδ⟩
  rintro _ ⟨ps, l, ne, g, a, b, rfl⟩
  simp only [startD, tdSeq, tdNext, tdSet, tdSetO, tdDrop, tdRet, tdRetO, tdRetN, tdIfS, tdAsg, tdPar, tdBreak, tdCont, tdFor, tdV, tdC, tdOp, tdB, tdT, tdNotT, tdAndT, tdOrT, tdAnd, tdOr, tdNot, tdIf, tdNeg, tdTup, tdLst, tdNil, tdCons, tdStar, tdMut, tdM1, tdSl, tdoN, tdoS, tdFmt, tdJs, tdgN, tdgT, tdgNil, tdgCons, pdE, pdV, pdNil, pdCons, getL, peek, frz, onB, onL, onT, owL, unowned, wipeD, tiL, tiT, tiS, tiV, tiR1, tiR2, tiE, tiZ, ttY, tdLc, pAdd, pMul, pII, pII0, pSS, pEq2, pIn2, pOrd, pIx2, pSl2, pSlL, pCat, pIsN, pLen, pI1, pI2, pInt, pStrI, pList, pTuple, pAll, pAny, pRepr, pJoin, pmAppend, pmExtend, pmPopAt, List.map_cons, List.map_nil, List.cons_append, List.nil_append, List.append_nil, List.length_cons, List.length_nil, List.getElem?_cons_zero, List.getElem?_cons_succ, List.set_cons_zero, List.set_cons_succ, List.replicate_succ, List.replicate_zero, Function.comp, Nat.reduceAdd, Nat.reduceSub, Nat.reduceLT, true_and, and_true, if_true, if_false, Bool.false_eq_true, ite_true, ite_false, Bool.not_true, Bool.not_false, reduceCtorEq, eqOk_str, eqOk_int, eqOk_bl, eqD_str, eqD_int, eqD_bl, decide_eq_true_eq, false_implies, true_implies, Option.some.injEq, exists_eq_left, exists_eq_left', exists_eq', or_false, false_or, eq_self, at0, at1, at2, at3, at4, D.str.injEq, D.int.injEq, D.bl.injEq, D.tup.injEq, D.lst.injEq, List.cons.injEq, Sl.fz.injEq, Sl.ow.injEq, fsMore_fr]
  refine ⟨⟨t, rfl, ok⟩, fun d ⟨q, e, qo, qc⟩ => ?_⟩
  rw [e]
  exact ⟨by omega, p, _, _, rfl, .merge ps p q, rfl, ⟨⟨ne, l, g⟩, po, qo⟩, by show p.cnt + q.cnt + 1 ≤ _; omega⟩
end
end K96


set_option Elab.async false
set_option linter.all false
set_option maxRecDepth 100000
set_option maxHeartbeats 8000000
namespace K96
open PySem PySem.Spec L2 PSG PSS DL TL
open PyProof.Rows (IntsAre AllBare)

abbrev s__law_stream : Stmt := topS 20
theorem sc__law_stream : FnScope ["_law_pot_here", "_law_tables_here", "_law_left", "_law_tree", "_law_references", "_law_table"] ["_law_pot_here", "_law_tables_here"] (defScope s__law_stream) := ⟨rfl, rfl, rfl, by decide +kernel, rfl, by decide +kernel, by decide +kernel⟩
abbrev s__law_plan : Stmt := topS 21
theorem sc__law_plan : FnScope ["_law_pot_here", "_law_tables_here", "_law_tree", "_law_references", "_law_way"] ["_law_pot_here", "_law_tables_here"] (defScope s__law_plan) := ⟨rfl, rfl, rfl, by decide +kernel, rfl, by decide +kernel, by decide +kernel⟩
abbrev s__law_emptied : Stmt := topS 22
theorem sc__law_emptied : FnScope ["_law_tree"] ["_law_tree"] (defScope s__law_emptied) := ⟨rfl, rfl, rfl, by decide +kernel, rfl, by decide +kernel, by decide +kernel⟩
section
variable {P : Program} {w : World} {K : PySem.W.Frag} {mg : Str → Option Value} {base : Heap}
theorem refs_app {a b : List Str} (ha : Refs a) (hb : Refs b) : Refs (a ++ b) := fun r m => (List.mem_append.mp m).elim (ha r) (hb r)
def fsStream : FS where
  pre := fun ds => ∃ ts : List Tb, ds = [.pot, .lst (ts.map Tb.D)] ∧ ts.length = 3 ∧ ∀ t ∈ ts, t.Ok
  post := fun _ d => ∃ (p : Pl) (rs : List Str), d = .tup [p.D, .lst (rs.map D.str)] ∧ p.Ok ∧ p.cnt ≤ 10 ∧ rs ≠ [] ∧ rs.length ≤ 9 ∧ Refs rs
theorem shuf_tabs {ts : List Tb} (h : ∀ t ∈ ts, t.Ok) {d : D} (p : fsShuf.post [.pot, .lst (ts.map Tb.D)] d) : ∃ ys : List Tb, d = .lst (ys.map Tb.D) ∧ ys.length = ts.length ∧ ∀ t ∈ ys, t.Ok := by
  obtain ⟨ys, rfl, l, m⟩ := shuf_post p
  have z : ∀ (ys : List D), (∀ y ∈ ys, y ∈ ts.map Tb.D) → ∃ zs : List Tb, ys = zs.map Tb.D ∧ ∀ t ∈ zs, t.Ok := by
    intro ys
    induction ys with
    | nil => intro _; exact ⟨[], rfl, fun x m => nomatch m⟩
    | cons y r ih =>
      intro m
      obtain ⟨zs, rfl, g⟩ := ih fun x mx => m x (List.mem_cons_of_mem _ mx)
      obtain ⟨x, mx, rfl⟩ := List.mem_map.mp (m y List.mem_cons_self)
      refine ⟨x :: zs, rfl, fun a ma => ?_⟩
      rcases List.mem_cons.mp ma with rfl | ma
      · exact h _ mx
      · exact g a ma
  obtain ⟨zs, rfl, g⟩ := z ys m
  rw [List.length_map, List.length_map] at l
  exact ⟨zs, rfl, l, g⟩
theorem fsStream_fr : fsStream.fr = false := rfl
theorem ok__law_stream {f : Addr} {fd : FuncData} {f0 : Addr} {d0 : FuncData} {f1 : Addr} {d1 : FuncData} {f2 : Addr} {d2 : FuncData} {f3 : Addr} {d3 : FuncData} {f4 : Addr} {d4 : FuncData} (F : Fun K "_law_stream" "_law_stream" s__law_stream f fd) (T : Blt K mg)
    (F__law_shuffled : Fun K "_law_shuffled" "_law_shuffled" s__law_shuffled f0 d0) (b__law_shuffled : Binds K d0 ["_law_pot_here", "_law_some"] []) (g__law_shuffled : mg "_law_shuffled" = some (.ref f0)) (G__law_shuffled : FnG P w K mg base CX0 2 f0 d0 ["_law_pot_here", "_law_some"] (spD K 2 fsShuf))
    (F__law_draw : Fun K "_law_draw" "_law_draw" s__law_draw f1 d1) (b__law_draw : Binds K d1 ["_law_pot_here", "_law_many"] []) (g__law_draw : mg "_law_draw" = some (.ref f1)) (G__law_draw : FnG P w K mg base CX0 1 f1 d1 ["_law_pot_here", "_law_many"] (spD K 2 fsDraw))
    (F__law_side : Fun K "_law_side" "_law_side" s__law_side f2 d2) (b__law_side : Binds K d2 ["_law_pot_here", "_law_table"] []) (g__law_side : mg "_law_side" = some (.ref f2)) (G__law_side : FnG P w K mg base CX0 4 f2 d2 ["_law_pot_here", "_law_table"] (spD K 2 fsSide))
    (F__law_more : Fun K "_law_more" "_law_more" s__law_more f3 d3) (b__law_more : Binds K d3 ["_law_pot_here", "_law_tree", "_law_references", "_law_table"] []) (g__law_more : mg "_law_more" = some (.ref f3)) (G__law_more : FnG P w K mg base CX0 5 f3 d3 ["_law_pot_here", "_law_tree", "_law_references", "_law_table"] (spD K 4 fsMore))
    (F__law_entries_of : Fun K "_law_entries_of" "_law_entries_of" s__law_entries_of f4 d4) (b__law_entries_of : Binds K d4 ["_law_pot_here", "_law_references", "_law_most"] []) (g__law_entries_of : mg "_law_entries_of" = some (.ref f4)) (G__law_entries_of : FnG P w K mg base CX0 3 f4 d4 ["_law_pot_here", "_law_references", "_law_most"] (spD K 3 fsEO)) : FnG P w K mg base CX0 6 f fd ["_law_pot_here", "_law_tables_here"] (spD K 2 fsStream) := by
  have sc := sc__law_stream
  refine okD (k := 5) F sc fun X hX hr gd => ?_
  obtain ⟨cdv, A, outer, s, H, E, rfl⟩ := hX
  refine ⟨_, (dss_cut (ds_set (i := 2) sc.nd rfl (.inl rfl) (d_sl (DE.dp (de_call1 G__law_shuffled (hr.mono (by omega)) gd (by rfl) g__law_shuffled F__law_shuffled.kp b__law_shuffled (da_cons (de_v 0) (da_cons (de_v 1) da_nil)))) do_none (do_some (d_add (DE.dp de_int) (DE.dp (de_call1 G__law_draw (hr.mono (by omega)) gd (by rfl) g__law_draw F__law_draw.kp b__law_draw (da_cons (de_v 0) (da_cons de_int da_nil))))))))
      (dss_cut (ds_par (i := 3) (j := 4) (o1 := false) (o2 := false) (by rfl) sc.nd rfl rfl (by decide) rfl rfl (DE.weak (de_call1 G__law_side (hr.mono (by omega)) gd (by rfl) g__law_side F__law_side.kp b__law_side (da_cons (de_v 0) (da_cons (d_ix (dp_v 2) (DE.dp de_int) (fun _ _ => rfl)) da_nil)))) (DE.weak (de_callTy call_list_of cd_list (by rfl) T.n_list (by decide +kernel) (dps_cons (DE.dp (d_ix (DE.dp (d_ix (dp_v 2) (DE.dp de_int) (fun _ _ => rfl))) (DE.dp de_int) (fun _ _ => rfl))) dps_nil))) (by rfl))
      (dss_cut (ds_for PassesOwn.never (by rfl) (d_it (d_sl (dp_v 2) (do_some de_int) do_none)) (dg_name (i := 5) sc.nd rfl (.inl rfl)) (dss_cons (ds_set (i := 3) sc.nd rfl (.inl rfl) (de_call1 G__law_more (hr.mono (by omega)) gd (by rfl) g__law_more F__law_more.kp b__law_more (da_cons (de_v 0) (da_cons (de_v 3) (da_cons (de_v 4) (da_cons (de_v 5) da_nil))))))
      (dss_cons (ds_set (i := 4) sc.nd rfl (.inl rfl) (d_add (dp_v 4) (DE.dp (d_ix (dp_v 5) (DE.dp de_int) (fun _ _ => rfl)))))
      (dss_one (ds_if (dt_cmp (o_eq hr) r2_Eq (DE.dp (de_call1 G__law_draw (hr.mono (by omega)) gd (by rfl) g__law_draw F__law_draw.kp b__law_draw (da_cons (de_v 0) (da_cons de_int da_nil)))) (DE.dp de_int) (by first | exact nomark _ | rfl)) (dss_one (ds_set (i := 3) sc.nd rfl (.inl rfl) (de_tup (da_cons de_str (da_cons (de_call1 G__law_entries_of (hr.mono (by omega)) gd (by rfl) g__law_entries_of F__law_entries_of.kp b__law_entries_of (da_cons (de_v 0) (da_cons (de_v 4) (da_cons de_int da_nil)))) (da_cons (de_v 3) da_nil)))))) dss_nil)))))
      (dss_one (ds_ret (de_tup (da_cons (de_v 3) (da_cons (de_v 4) da_nil)))))))), fun ds l pre => ?_⟩
  obtain ⟨ts, rfl, l3, ok⟩ := pre
  have sl := sizeLine_eq
  refine ⟨fun δ => ∃ ls : List Tb, 1 ≤ ls.length ∧ ls.length ≤ 3 ∧ (∀ t ∈ ls, t.Ok) ∧ δ = [some (.fz .pot), some (.fz (.lst (ts.map Tb.D))), some (.fz (.lst (ls.map Tb.D))), none, none, none], ?_, ?_⟩
  · simp only [startD, tdSeq, tdNext, tdSet, tdSetO, tdDrop, tdRet, tdRetO, tdRetN, tdIfS, tdAsg, tdPar, tdBreak, tdCont, tdFor, tdV, tdC, tdOp, tdB, tdT, tdNotT, tdAndT, tdOrT, tdAnd, tdOr, tdNot, tdIf, tdNeg, tdTup, tdLst, tdNil, tdCons, tdStar, tdMut, tdM1, tdSl, tdoN, tdoS, tdFmt, tdJs, tdgN, tdgT, tdgNil, tdgCons, pdE, pdV, pdNil, pdCons, getL, peek, frz, onB, onL, onT, owL, unowned, wipeD, tiL, tiT, tiS, tiV, tiR1, tiR2, tiE, tiZ, ttY, tdLc, pAdd, pMul, pII, pII0, pSS, pEq2, pIn2, pOrd, pIx2, pSl2, pSlL, pCat, pIsN, pLen, pI1, pI2, pInt, pStrI, pList, pTuple, pAll, pAny, pRepr, pJoin, pmAppend, pmExtend, pmPopAt, List.map_cons, List.map_nil, List.cons_append, List.nil_append, List.append_nil, List.length_cons, List.length_nil, List.getElem?_cons_zero, List.getElem?_cons_succ, List.set_cons_zero, List.set_cons_succ, List.replicate_succ, List.replicate_zero, Function.comp, Nat.reduceAdd, Nat.reduceSub, Nat.reduceLT, true_and, and_true, if_true, if_false, Bool.false_eq_true, ite_true, ite_false, Bool.not_true, Bool.not_false, reduceCtorEq, eqOk_str, eqOk_int, eqOk_bl, eqD_str, eqD_int, eqD_bl, decide_eq_true_eq, false_implies, true_implies, Option.some.injEq, exists_eq_left, exists_eq_left', exists_eq', or_false, false_or, eq_self, at0, at1, at2, at3, at4, D.str.injEq, D.int.injEq, D.bl.injEq, D.tup.injEq, D.lst.injEq, List.cons.injEq, Sl.fz.injEq, Sl.ow.injEq, fsDraw]
    refine ⟨⟨_, rfl, by rw [List.length_map]; omega⟩, fun d hd => ⟨⟨by omega, by decide +kernel⟩, ?_⟩⟩
    obtain ⟨ys, rfl, ly, gy⟩ := shuf_tabs ok hd
    rintro d ⟨k, rfl, h0, h1⟩
    obtain ⟨j, rfl⟩ : ∃ j : Nat, k = j := ⟨k.toNat, by omega⟩
    simp only [startD, tdSeq, tdNext, tdSet, tdSetO, tdDrop, tdRet, tdRetO, tdRetN, tdIfS, tdAsg, tdPar, tdBreak, tdCont, tdFor, tdV, tdC, tdOp, tdB, tdT, tdNotT, tdAndT, tdOrT, tdAnd, tdOr, tdNot, tdIf, tdNeg, tdTup, tdLst, tdNil, tdCons, tdStar, tdMut, tdM1, tdSl, tdoN, tdoS, tdFmt, tdJs, tdgN, tdgT, tdgNil, tdgCons, pdE, pdV, pdNil, pdCons, getL, peek, frz, onB, onL, onT, owL, unowned, wipeD, tiL, tiT, tiS, tiV, tiR1, tiR2, tiE, tiZ, ttY, tdLc, pAdd, pMul, pII, pII0, pSS, pEq2, pIn2, pOrd, pIx2, pSl2, pSlL, pCat, pIsN, pLen, pI1, pI2, pInt, pStrI, pList, pTuple, pAll, pAny, pRepr, pJoin, pmAppend, pmExtend, pmPopAt, List.map_cons, List.map_nil, List.cons_append, List.nil_append, List.append_nil, List.length_cons, List.length_nil, List.getElem?_cons_zero, List.getElem?_cons_succ, List.set_cons_zero, List.set_cons_succ, List.replicate_succ, List.replicate_zero, Function.comp, Nat.reduceAdd, Nat.reduceSub, Nat.reduceLT, true_and, and_true, if_true, if_false, Bool.false_eq_true, ite_true, ite_false, Bool.not_true, Bool.not_false, reduceCtorEq, eqOk_str, eqOk_int, eqOk_bl, eqD_str, eqD_int, eqD_bl, decide_eq_true_eq, false_implies, true_implies, Option.some.injEq, exists_eq_left, exists_eq_left', exists_eq', or_false, false_or, eq_self, at0, at1, at2, at3, at4, D.str.injEq, D.int.injEq, D.bl.injEq, D.tup.injEq, D.lst.injEq, List.cons.injEq, Sl.fz.injEq, Sl.ow.injEq]
    have e : (1 : Int) + (j : Int) = ((1 + j : Nat) : Int) := by omega
    rw [e, cutD_min, ← List.map_take]
    exact ⟨_, by rw [List.length_take]; omega, by rw [List.length_take]; omega, fun r m => gy r (List.mem_of_mem_take m), rfl⟩
  rintro _ ⟨ls, l1, l2, gl, rfl⟩
  match ls, l1, l2, gl with
  | t :: r, _, lr, gl =>
  have lr : r.length ≤ 2 := Nat.le_of_succ_le_succ lr
  have tok := gl t List.mem_cons_self
  refine ⟨fun δ => ∃ p : Pl, p.Ok ∧ p.cnt ≤ 2 ∧ δ = [some (.fz .pot), some (.fz (.lst (ts.map Tb.D))), some (.fz (.lst ((t :: r).map Tb.D))), some (.fz p.D), some (.fz (.lst (t.rs.map D.str))), none], ?_, ?_⟩
  · simp only [startD, tdSeq, tdNext, tdSet, tdSetO, tdDrop, tdRet, tdRetO, tdRetN, tdIfS, tdAsg, tdPar, tdBreak, tdCont, tdFor, tdV, tdC, tdOp, tdB, tdT, tdNotT, tdAndT, tdOrT, tdAnd, tdOr, tdNot, tdIf, tdNeg, tdTup, tdLst, tdNil, tdCons, tdStar, tdMut, tdM1, tdSl, tdoN, tdoS, tdFmt, tdJs, tdgN, tdgT, tdgNil, tdgCons, pdE, pdV, pdNil, pdCons, getL, peek, frz, onB, onL, onT, owL, unowned, wipeD, tiL, tiT, tiS, tiV, tiR1, tiR2, tiE, tiZ, ttY, tdLc, pAdd, pMul, pII, pII0, pSS, pEq2, pIn2, pOrd, pIx2, pSl2, pSlL, pCat, pIsN, pLen, pI1, pI2, pInt, pStrI, pList, pTuple, pAll, pAny, pRepr, pJoin, pmAppend, pmExtend, pmPopAt, List.map_cons, List.map_nil, List.cons_append, List.nil_append, List.append_nil, List.length_cons, List.length_nil, List.getElem?_cons_zero, List.getElem?_cons_succ, List.set_cons_zero, List.set_cons_succ, List.replicate_succ, List.replicate_zero, Function.comp, Nat.reduceAdd, Nat.reduceSub, Nat.reduceLT, true_and, and_true, if_true, if_false, Bool.false_eq_true, ite_true, ite_false, Bool.not_true, Bool.not_false, reduceCtorEq, eqOk_str, eqOk_int, eqOk_bl, eqD_str, eqD_int, eqD_bl, decide_eq_true_eq, false_implies, true_implies, Option.some.injEq, exists_eq_left, exists_eq_left', exists_eq', or_false, false_or, eq_self, at0, at1, at2, at3, at4, D.str.injEq, D.int.injEq, D.bl.injEq, D.tup.injEq, D.lst.injEq, List.cons.injEq, Sl.fz.injEq, Sl.ow.injEq, Tb.D]
    exact ⟨⟨t, rfl, tok⟩, fun d ⟨p, e, o, c⟩ => ⟨p, o, c, e⟩⟩
  rintro _ ⟨p, po, pc, rfl⟩
  refine ⟨fun δ => ∃ (p : Pl) (rs : List Str), (p.Ok ∧ p.cnt ≤ 10 ∧ rs ≠ [] ∧ rs.length ≤ 9 ∧ Refs rs) ∧ ∃ o, δ = [some (.fz .pot), some (.fz (.lst (ts.map Tb.D))), some (.fz (.lst ((t :: r).map Tb.D))), some (.fz p.D), some (.fz (.lst (rs.map D.str))), o], ?_, ?_⟩
  · refine for_open fun gg tb hg hb => ?_
    simp only [startD, tdSeq, tdNext, tdSet, tdSetO, tdDrop, tdRet, tdRetO, tdRetN, tdIfS, tdAsg, tdPar, tdBreak, tdCont, tdFor, tdV, tdC, tdOp, tdB, tdT, tdNotT, tdAndT, tdOrT, tdAnd, tdOr, tdNot, tdIf, tdNeg, tdTup, tdLst, tdNil, tdCons, tdStar, tdMut, tdM1, tdSl, tdoN, tdoS, tdFmt, tdJs, tdgN, tdgT, tdgNil, tdgCons, pdE, pdV, pdNil, pdCons, getL, peek, frz, onB, onL, onT, owL, unowned, wipeD, tiL, tiT, tiS, tiV, tiR1, tiR2, tiE, tiZ, ttY, tdLc, pAdd, pMul, pII, pII0, pSS, pEq2, pIn2, pOrd, pIx2, pSl2, pSlL, pCat, pIsN, pLen, pI1, pI2, pInt, pStrI, pList, pTuple, pAll, pAny, pRepr, pJoin, pmAppend, pmExtend, pmPopAt, List.map_cons, List.map_nil, List.cons_append, List.nil_append, List.append_nil, List.length_cons, List.length_nil, List.getElem?_cons_zero, List.getElem?_cons_succ, List.set_cons_zero, List.set_cons_succ, List.replicate_succ, List.replicate_zero, Function.comp, Nat.reduceAdd, Nat.reduceSub, Nat.reduceLT, true_and, and_true, if_true, if_false, Bool.false_eq_true, ite_true, ite_false, Bool.not_true, Bool.not_false, reduceCtorEq, eqOk_str, eqOk_int, eqOk_bl, eqD_str, eqD_int, eqD_bl, decide_eq_true_eq, false_implies, true_implies, Option.some.injEq, exists_eq_left, exists_eq_left', exists_eq', or_false, false_or, eq_self, at0, at1, at2, at3, at4, D.str.injEq, D.int.injEq, D.bl.injEq, D.tup.injEq, D.lst.injEq, List.cons.injEq, Sl.fz.injEq, Sl.ow.injEq, cutD_1]
    have c1 := tok.r1
    refine ⟨fun i δ => ∃ (p : Pl) (rs : List Str), (p.Ok ∧ p.cnt ≤ 2 + 4 * i ∧ rs ≠ [] ∧ rs.length ≤ 3 * (i + 1) ∧ Refs rs) ∧ ∃ o, δ = [some (.fz .pot), some (.fz (.lst (ts.map Tb.D))), some (.fz (.lst ((t :: r).map Tb.D))), some (.fz p.D), some (.fz (.lst (rs.map D.str))), o], ⟨p, t.rs, ⟨po, pc, tok.r0, c1, tok.rs⟩, none, rfl⟩, fun i d δ e ⟨p, rs, ⟨po, pc, r0, rl, rf⟩, o, eδ⟩ => ?_, fun δ ⟨p, rs, ⟨po, pc, r0, rl, rf⟩, o, eδ⟩ => ⟨p, rs, ⟨po, by rw [List.length_map] at pc; omega, r0, by rw [List.length_map] at rl; omega, rf⟩, o, eδ⟩⟩
    obtain ⟨u, eu, rfl⟩ := get_map e
    have il := (List.getElem?_eq_some_iff.mp eu).1
    have uok := gl u (List.mem_cons_of_mem _ (List.mem_of_getElem? eu))
    subst hg hb eδ
    simp only [startD, tdSeq, tdNext, tdSet, tdSetO, tdDrop, tdRet, tdRetO, tdRetN, tdIfS, tdAsg, tdPar, tdBreak, tdCont, tdFor, tdV, tdC, tdOp, tdB, tdT, tdNotT, tdAndT, tdOrT, tdAnd, tdOr, tdNot, tdIf, tdNeg, tdTup, tdLst, tdNil, tdCons, tdStar, tdMut, tdM1, tdSl, tdoN, tdoS, tdFmt, tdJs, tdgN, tdgT, tdgNil, tdgCons, pdE, pdV, pdNil, pdCons, getL, peek, frz, onB, onL, onT, owL, unowned, wipeD, tiL, tiT, tiS, tiV, tiR1, tiR2, tiE, tiZ, ttY, tdLc, pAdd, pMul, pII, pII0, pSS, pEq2, pIn2, pOrd, pIx2, pSl2, pSlL, pCat, pIsN, pLen, pI1, pI2, pInt, pStrI, pList, pTuple, pAll, pAny, pRepr, pJoin, pmAppend, pmExtend, pmPopAt, List.map_cons, List.map_nil, List.cons_append, List.nil_append, List.append_nil, List.length_cons, List.length_nil, List.getElem?_cons_zero, List.getElem?_cons_succ, List.set_cons_zero, List.set_cons_succ, List.replicate_succ, List.replicate_zero, Function.comp, Nat.reduceAdd, Nat.reduceSub, Nat.reduceLT, true_and, and_true, if_true, if_false, Bool.false_eq_true, ite_true, ite_false, Bool.not_true, Bool.not_false, reduceCtorEq, eqOk_str, eqOk_int, eqOk_bl, eqD_str, eqD_int, eqD_bl, decide_eq_true_eq, false_implies, true_implies, Option.some.injEq, exists_eq_left, exists_eq_left', exists_eq', or_false, false_or, eq_self, at0, at1, at2, at3, at4, D.str.injEq, D.int.injEq, D.bl.injEq, D.tup.injEq, D.lst.injEq, List.cons.injEq, Sl.fz.injEq, Sl.ow.injEq]
    refine ⟨⟨p, rs, u, rfl, po, by omega, r0, by omega, rf, uok⟩, fun d hd => ?_⟩
    obtain ⟨q, rfl, qo, qc⟩ := more_post hd
    simp only [startD, tdSeq, tdNext, tdSet, tdSetO, tdDrop, tdRet, tdRetO, tdRetN, tdIfS, tdAsg, tdPar, tdBreak, tdCont, tdFor, tdV, tdC, tdOp, tdB, tdT, tdNotT, tdAndT, tdOrT, tdAnd, tdOr, tdNot, tdIf, tdNeg, tdTup, tdLst, tdNil, tdCons, tdStar, tdMut, tdM1, tdSl, tdoN, tdoS, tdFmt, tdJs, tdgN, tdgT, tdgNil, tdgCons, pdE, pdV, pdNil, pdCons, getL, peek, frz, onB, onL, onT, owL, unowned, wipeD, tiL, tiT, tiS, tiV, tiR1, tiR2, tiE, tiZ, ttY, tdLc, pAdd, pMul, pII, pII0, pSS, pEq2, pIn2, pOrd, pIx2, pSl2, pSlL, pCat, pIsN, pLen, pI1, pI2, pInt, pStrI, pList, pTuple, pAll, pAny, pRepr, pJoin, pmAppend, pmExtend, pmPopAt, List.map_cons, List.map_nil, List.cons_append, List.nil_append, List.append_nil, List.length_cons, List.length_nil, List.getElem?_cons_zero, List.getElem?_cons_succ, List.set_cons_zero, List.set_cons_succ, List.replicate_succ, List.replicate_zero, Function.comp, Nat.reduceAdd, Nat.reduceSub, Nat.reduceLT, true_and, and_true, if_true, if_false, Bool.false_eq_true, ite_true, ite_false, Bool.not_true, Bool.not_false, reduceCtorEq, eqOk_str, eqOk_int, eqOk_bl, eqD_str, eqD_int, eqD_bl, decide_eq_true_eq, false_implies, true_implies, Option.some.injEq, exists_eq_left, exists_eq_left', exists_eq', or_false, false_or, eq_self, at0, at1, at2, at3, at4, D.str.injEq, D.int.injEq, D.bl.injEq, D.tup.injEq, D.lst.injEq, List.cons.injEq, Sl.fz.injEq, Sl.ow.injEq, Tb.D, fsDraw]
    refine ⟨by rw [List.length_map, List.length_map]; have := uok.r1; omega, ⟨by omega, by decide +kernel⟩, ?_⟩
    have := uok.r1
    have lu : (rs ++ u.rs).length ≤ 3 * (i + 1 + 1) := by rw [List.length_append]; omega
    have ru := refs_app rf uok.rs
    have nu : rs ++ u.rs ≠ [] := fun e => r0 (List.append_eq_nil_iff.mp e).1
    rintro d ⟨k, rfl, h0, h1⟩
    simp only [startD, tdSeq, tdNext, tdSet, tdSetO, tdDrop, tdRet, tdRetO, tdRetN, tdIfS, tdAsg, tdPar, tdBreak, tdCont, tdFor, tdV, tdC, tdOp, tdB, tdT, tdNotT, tdAndT, tdOrT, tdAnd, tdOr, tdNot, tdIf, tdNeg, tdTup, tdLst, tdNil, tdCons, tdStar, tdMut, tdM1, tdSl, tdoN, tdoS, tdFmt, tdJs, tdgN, tdgT, tdgNil, tdgCons, pdE, pdV, pdNil, pdCons, getL, peek, frz, onB, onL, onT, owL, unowned, wipeD, tiL, tiT, tiS, tiV, tiR1, tiR2, tiE, tiZ, ttY, tdLc, pAdd, pMul, pII, pII0, pSS, pEq2, pIn2, pOrd, pIx2, pSl2, pSlL, pCat, pIsN, pLen, pI1, pI2, pInt, pStrI, pList, pTuple, pAll, pAny, pRepr, pJoin, pmAppend, pmExtend, pmPopAt, List.map_cons, List.map_nil, List.cons_append, List.nil_append, List.append_nil, List.length_cons, List.length_nil, List.getElem?_cons_zero, List.getElem?_cons_succ, List.set_cons_zero, List.set_cons_succ, List.replicate_succ, List.replicate_zero, Function.comp, Nat.reduceAdd, Nat.reduceSub, Nat.reduceLT, true_and, and_true, if_true, if_false, Bool.false_eq_true, ite_true, ite_false, Bool.not_true, Bool.not_false, reduceCtorEq, eqOk_str, eqOk_int, eqOk_bl, eqD_str, eqD_int, eqD_bl, decide_eq_true_eq, false_implies, true_implies, Option.some.injEq, exists_eq_left, exists_eq_left', exists_eq', or_false, false_or, eq_self, at0, at1, at2, at3, at4, D.str.injEq, D.int.injEq, D.bl.injEq, D.tup.injEq, D.lst.injEq, List.cons.injEq, Sl.fz.injEq, Sl.ow.injEq]
    split
    · refine ⟨⟨rs ++ u.rs, 6, by rw [List.map_append]; rfl, by omega, ru, by omega, by omega⟩, fun d ⟨es, e, l, g⟩ => ⟨by omega, .sort es q, rs ++ u.rs, ⟨⟨⟨l, g⟩, qo⟩, by show q.cnt + 1 ≤ _; omega, nu, lu, ru⟩, _, by rw [e]; rfl, by rw [List.map_append], rfl⟩⟩
    · exact ⟨q, rs ++ u.rs, ⟨qo, by omega, nu, lu, ru⟩, _, rfl, by rw [List.map_append], rfl⟩
  rintro _ ⟨p, rs, g, o, rfl⟩
  simp only [startD, tdSeq, tdNext, tdSet, tdSetO, tdDrop, tdRet, tdRetO, tdRetN, tdIfS, tdAsg, tdPar, tdBreak, tdCont, tdFor, tdV, tdC, tdOp, tdB, tdT, tdNotT, tdAndT, tdOrT, tdAnd, tdOr, tdNot, tdIf, tdNeg, tdTup, tdLst, tdNil, tdCons, tdStar, tdMut, tdM1, tdSl, tdoN, tdoS, tdFmt, tdJs, tdgN, tdgT, tdgNil, tdgCons, pdE, pdV, pdNil, pdCons, getL, peek, frz, onB, onL, onT, owL, unowned, wipeD, tiL, tiT, tiS, tiV, tiR1, tiR2, tiE, tiZ, ttY, tdLc, pAdd, pMul, pII, pII0, pSS, pEq2, pIn2, pOrd, pIx2, pSl2, pSlL, pCat, pIsN, pLen, pI1, pI2, pInt, pStrI, pList, pTuple, pAll, pAny, pRepr, pJoin, pmAppend, pmExtend, pmPopAt, List.map_cons, List.map_nil, List.cons_append, List.nil_append, List.append_nil, List.length_cons, List.length_nil, List.getElem?_cons_zero, List.getElem?_cons_succ, List.set_cons_zero, List.set_cons_succ, List.replicate_succ, List.replicate_zero, Function.comp, Nat.reduceAdd, Nat.reduceSub, Nat.reduceLT, true_and, and_true, if_true, if_false, Bool.false_eq_true, ite_true, ite_false, Bool.not_true, Bool.not_false, reduceCtorEq, eqOk_str, eqOk_int, eqOk_bl, eqD_str, eqD_int, eqD_bl, decide_eq_true_eq, false_implies, true_implies, Option.some.injEq, exists_eq_left, exists_eq_left', exists_eq', or_false, false_or, eq_self, at0, at1, at2, at3, at4, D.str.injEq, D.int.injEq, D.bl.injEq, D.tup.injEq, D.lst.injEq, List.cons.injEq, Sl.fz.injEq, Sl.ow.injEq, fsStream_fr]
  exact ⟨by omega, p, rs, rfl, g⟩
def fsPlanL : FS where
  pre := fsStream.pre
  post := fun _ d => ∃ p : Pl, d = p.D ∧ p.Ok ∧ p.cnt ≤ 13
def fsEmp (n : Nat) : FS where
  pre := fun ds => ∃ p : Pl, ds = [p.D] ∧ p.Ok ∧ p.cnt ≤ n
  post := fun ds d => ∃ p : Pl, ds = [p.D] ∧ ∃ q : Pl, d = q.D ∧ q.Ok ∧ q.cnt = p.cnt
theorem emp_post {n : Nat} {p : Pl} {d : D} (h : (fsEmp n).post [p.D] d) : ∃ q : Pl, d = q.D ∧ q.Ok ∧ q.cnt = p.cnt := by
  obtain ⟨q, e, z⟩ := h
  rw [pl_inj (List.cons.inj e).1]
  exact z
theorem cutD_t2 {x y : D} {xs : List D} : cutD (x :: y :: xs) none (some 2) = [x, y] := cutD_to (k := 2) (by show 2 ≤ xs.length + 1 + 1; omega)
theorem fsPlanL_fr : fsPlanL.fr = false := rfl
theorem fsEmp_fr (n : Nat) : (fsEmp n).fr = false := rfl
theorem ok__law_emptied {f : Addr} {fd : FuncData} (F : Fun K "_law_emptied" "_law_emptied" s__law_emptied f fd) (T : Blt K mg) (b__law_emptied : Binds K fd ["_law_tree"] []) (g__law_emptied : mg "_law_emptied" = some (.ref f)) :
    ∀ n : Nat, FnG P w K mg base CX0 (n + 1) f fd ["_law_tree"] (spD K 1 (fsEmp n)) := by
  have sc := sc__law_emptied
  have F__law_emptied := F
  intro n
  induction n with
  | zero => exact fn_void fun ds ⟨p, _, _, h⟩ => by have := p.cnt_pos; omega
  | succ n ih =>
    have G__law_emptied := ih
    refine okD (k := n + 1) F sc fun X hX hr gd => ?_
    obtain ⟨cdv, A, outer, s, H, E, rfl⟩ := hX
    refine ⟨_, (dss_cons (ds_if (dt_cmp (o_in hr) r2_In (DE.dp (d_ix (dp_v 0) (DE.dp de_int) (fun _ _ => rfl))) (DE.dp (de_tup (da_cons de_str (da_cons de_str da_nil)))) (by first | exact nomark _ | rfl)) (dss_one (ds_ret (de_v 0))) dss_nil)
      (dss_cons (ds_if (dt_cmp (o_eq hr) r2_Eq (DE.dp (d_ix (dp_v 0) (DE.dp de_int) (fun _ _ => rfl))) (DE.dp de_str) (by first | exact nomark _ | rfl)) (dss_one (ds_ret (de_tup (da_cons de_str (da_cons (de_tup da_nil) (da_cons (de_call1 G__law_emptied (hr.mono (by omega)) gd (by rfl) g__law_emptied F__law_emptied.kp b__law_emptied (da_cons (d_ix (dp_v 0) (DE.dp de_int) (fun _ _ => rfl)) da_nil)) da_nil)))))) dss_nil)
      (dss_cons (ds_if (dt_cmp (o_eq hr) r2_Eq (DE.dp (d_ix (dp_v 0) (DE.dp de_int) (fun _ _ => rfl))) (DE.dp de_str) (by first | exact nomark _ | rfl)) (dss_one (ds_ret (d_add (DE.dp (d_sl (dp_v 0) do_none (do_some de_int))) (DE.dp (de_tup (da_cons (de_call1 G__law_emptied (hr.mono (by omega)) gd (by rfl) g__law_emptied F__law_emptied.kp b__law_emptied (da_cons (d_ix (dp_v 0) (DE.dp de_int) (fun _ _ => rfl)) da_nil)) (da_cons (de_call1 G__law_emptied (hr.mono (by omega)) gd (by rfl) g__law_emptied F__law_emptied.kp b__law_emptied (da_cons (d_ix (dp_v 0) (DE.dp de_int) (fun _ _ => rfl)) da_nil)) da_nil))))))) dss_nil)
      (dss_one (ds_ret (d_add (DE.dp (de_tup (da_cons (d_ix (dp_v 0) (DE.dp de_int) (fun _ _ => rfl)) (da_cons (de_call1 G__law_emptied (hr.mono (by omega)) gd (by rfl) g__law_emptied F__law_emptied.kp b__law_emptied (da_cons (d_ix (dp_v 0) (DE.dp de_int) (fun _ _ => rfl)) da_nil)) da_nil)))) (DE.dp (d_sl (dp_v 0) (do_some de_int) do_none)))))))), fun ds l pre => ?_⟩
    obtain ⟨p, rfl, ok, cn⟩ := pre
    have sl := sizeLine_eq
    cases p with
    | heap t =>
      simp (decide := true) only [startD, tdSeq, tdNext, tdSet, tdSetO, tdDrop, tdRet, tdRetO, tdRetN, tdIfS, tdAsg, tdPar, tdBreak, tdCont, tdFor, tdV, tdC, tdOp, tdB, tdT, tdNotT, tdAndT, tdOrT, tdAnd, tdOr, tdNot, tdIf, tdNeg, tdTup, tdLst, tdNil, tdCons, tdStar, tdMut, tdM1, tdSl, tdoN, tdoS, tdFmt, tdJs, tdgN, tdgT, tdgNil, tdgCons, pdE, pdV, pdNil, pdCons, getL, peek, frz, onB, onL, onT, owL, unowned, wipeD, tiL, tiT, tiS, tiV, tiR1, tiR2, tiE, tiZ, ttY, tdLc, pAdd, pMul, pII, pII0, pSS, pEq2, pIn2, pOrd, pIx2, pSl2, pSlL, pCat, pIsN, pLen, pI1, pI2, pInt, pStrI, pList, pTuple, pAll, pAny, pRepr, pJoin, pmAppend, pmExtend, pmPopAt, List.map_cons, List.map_nil, List.cons_append, List.nil_append, List.append_nil, List.length_cons, List.length_nil, List.getElem?_cons_zero, List.getElem?_cons_succ, List.set_cons_zero, List.set_cons_succ, List.replicate_succ, List.replicate_zero, Function.comp, Nat.reduceAdd, Nat.reduceSub, Nat.reduceLT, true_and, and_true, if_true, if_false, Bool.false_eq_true, ite_true, ite_false, Bool.not_true, Bool.not_false, reduceCtorEq, eqOk_str, eqOk_int, eqOk_bl, eqD_str, eqD_int, eqD_bl, decide_eq_true_eq, false_implies, true_implies, Option.some.injEq, exists_eq_left, exists_eq_left', exists_eq', or_false, false_or, eq_self, at0, at1, at2, at3, at4, D.str.injEq, D.int.injEq, D.bl.injEq, D.tup.injEq, D.lst.injEq, List.cons.injEq, Sl.fz.injEq, Sl.ow.injEq, Pl.D, fsEmp_fr]
      exact ⟨.heap t, rfl, .heap t, rfl, ok, rfl⟩
    | index t i =>
      simp (decide := true) only [startD, tdSeq, tdNext, tdSet, tdSetO, tdDrop, tdRet, tdRetO, tdRetN, tdIfS, tdAsg, tdPar, tdBreak, tdCont, tdFor, tdV, tdC, tdOp, tdB, tdT, tdNotT, tdAndT, tdOrT, tdAnd, tdOr, tdNot, tdIf, tdNeg, tdTup, tdLst, tdNil, tdCons, tdStar, tdMut, tdM1, tdSl, tdoN, tdoS, tdFmt, tdJs, tdgN, tdgT, tdgNil, tdgCons, pdE, pdV, pdNil, pdCons, getL, peek, frz, onB, onL, onT, owL, unowned, wipeD, tiL, tiT, tiS, tiV, tiR1, tiR2, tiE, tiZ, ttY, tdLc, pAdd, pMul, pII, pII0, pSS, pEq2, pIn2, pOrd, pIx2, pSl2, pSlL, pCat, pIsN, pLen, pI1, pI2, pInt, pStrI, pList, pTuple, pAll, pAny, pRepr, pJoin, pmAppend, pmExtend, pmPopAt, List.map_cons, List.map_nil, List.cons_append, List.nil_append, List.append_nil, List.length_cons, List.length_nil, List.getElem?_cons_zero, List.getElem?_cons_succ, List.set_cons_zero, List.set_cons_succ, List.replicate_succ, List.replicate_zero, Function.comp, Nat.reduceAdd, Nat.reduceSub, Nat.reduceLT, true_and, and_true, if_true, if_false, Bool.false_eq_true, ite_true, ite_false, Bool.not_true, Bool.not_false, reduceCtorEq, eqOk_str, eqOk_int, eqOk_bl, eqD_str, eqD_int, eqD_bl, decide_eq_true_eq, false_implies, true_implies, Option.some.injEq, exists_eq_left, exists_eq_left', exists_eq', or_false, false_or, eq_self, at0, at1, at2, at3, at4, D.str.injEq, D.int.injEq, D.bl.injEq, D.tup.injEq, D.lst.injEq, List.cons.injEq, Sl.fz.injEq, Sl.ow.injEq, Pl.D, fsEmp_fr]
      exact ⟨.index t i, rfl, .index t i, rfl, ok, rfl⟩
    | sort es p =>
      have ok : (es.length ≤ 8 ∧ ∀ e ∈ es, Ref e.1) ∧ p.Ok := ok
      have cn : p.cnt + 1 ≤ n + 1 := cn
      simp (decide := true) only [startD, tdSeq, tdNext, tdSet, tdSetO, tdDrop, tdRet, tdRetO, tdRetN, tdIfS, tdAsg, tdPar, tdBreak, tdCont, tdFor, tdV, tdC, tdOp, tdB, tdT, tdNotT, tdAndT, tdOrT, tdAnd, tdOr, tdNot, tdIf, tdNeg, tdTup, tdLst, tdNil, tdCons, tdStar, tdMut, tdM1, tdSl, tdoN, tdoS, tdFmt, tdJs, tdgN, tdgT, tdgNil, tdgCons, pdE, pdV, pdNil, pdCons, getL, peek, frz, onB, onL, onT, owL, unowned, wipeD, tiL, tiT, tiS, tiV, tiR1, tiR2, tiE, tiZ, ttY, tdLc, pAdd, pMul, pII, pII0, pSS, pEq2, pIn2, pOrd, pIx2, pSl2, pSlL, pCat, pIsN, pLen, pI1, pI2, pInt, pStrI, pList, pTuple, pAll, pAny, pRepr, pJoin, pmAppend, pmExtend, pmPopAt, List.map_cons, List.map_nil, List.cons_append, List.nil_append, List.append_nil, List.length_cons, List.length_nil, List.getElem?_cons_zero, List.getElem?_cons_succ, List.set_cons_zero, List.set_cons_succ, List.replicate_succ, List.replicate_zero, Function.comp, Nat.reduceAdd, Nat.reduceSub, Nat.reduceLT, true_and, and_true, if_true, if_false, Bool.false_eq_true, ite_true, ite_false, Bool.not_true, Bool.not_false, reduceCtorEq, eqOk_str, eqOk_int, eqOk_bl, eqD_str, eqD_int, eqD_bl, decide_eq_true_eq, false_implies, true_implies, Option.some.injEq, exists_eq_left, exists_eq_left', exists_eq', or_false, false_or, eq_self, at0, at1, at2, at3, at4, D.str.injEq, D.int.injEq, D.bl.injEq, D.tup.injEq, D.lst.injEq, List.cons.injEq, Sl.fz.injEq, Sl.ow.injEq, Pl.D, fsEmp_fr]
      refine ⟨⟨p, rfl, ok.2, by omega⟩, fun d hd => ?_⟩
      obtain ⟨q, rfl, qo, qc⟩ := emp_post hd
      exact ⟨.sort es p, rfl, .sort [] q, rfl, ⟨⟨Nat.zero_le _, fun e m => nomatch m⟩, qo⟩, congrArg Nat.succ qc⟩
    | merge ps p q =>
      have ok : (ps ≠ [] ∧ ps.length ≤ 3 ∧ ∀ e ∈ ps, Ref e.1 ∧ Ref e.2.1) ∧ p.Ok ∧ q.Ok := ok
      have cn : p.cnt + q.cnt + 1 ≤ n + 1 := cn
      simp (decide := true) only [startD, tdSeq, tdNext, tdSet, tdSetO, tdDrop, tdRet, tdRetO, tdRetN, tdIfS, tdAsg, tdPar, tdBreak, tdCont, tdFor, tdV, tdC, tdOp, tdB, tdT, tdNotT, tdAndT, tdOrT, tdAnd, tdOr, tdNot, tdIf, tdNeg, tdTup, tdLst, tdNil, tdCons, tdStar, tdMut, tdM1, tdSl, tdoN, tdoS, tdFmt, tdJs, tdgN, tdgT, tdgNil, tdgCons, pdE, pdV, pdNil, pdCons, getL, peek, frz, onB, onL, onT, owL, unowned, wipeD, tiL, tiT, tiS, tiV, tiR1, tiR2, tiE, tiZ, ttY, tdLc, pAdd, pMul, pII, pII0, pSS, pEq2, pIn2, pOrd, pIx2, pSl2, pSlL, pCat, pIsN, pLen, pI1, pI2, pInt, pStrI, pList, pTuple, pAll, pAny, pRepr, pJoin, pmAppend, pmExtend, pmPopAt, List.map_cons, List.map_nil, List.cons_append, List.nil_append, List.append_nil, List.length_cons, List.length_nil, List.getElem?_cons_zero, List.getElem?_cons_succ, List.set_cons_zero, List.set_cons_succ, List.replicate_succ, List.replicate_zero, Function.comp, Nat.reduceAdd, Nat.reduceSub, Nat.reduceLT, true_and, and_true, if_true, if_false, Bool.false_eq_true, ite_true, ite_false, Bool.not_true, Bool.not_false, reduceCtorEq, eqOk_str, eqOk_int, eqOk_bl, eqD_str, eqD_int, eqD_bl, decide_eq_true_eq, false_implies, true_implies, Option.some.injEq, exists_eq_left, exists_eq_left', exists_eq', or_false, false_or, eq_self, at0, at1, at2, at3, at4, D.str.injEq, D.int.injEq, D.bl.injEq, D.tup.injEq, D.lst.injEq, List.cons.injEq, Sl.fz.injEq, Sl.ow.injEq, Pl.D, fsEmp_fr, cutD_t2]
      refine ⟨⟨p, rfl, ok.2.1, by omega⟩, fun d hd => ?_⟩
      obtain ⟨p', rfl, po, pc⟩ := emp_post hd
      refine ⟨⟨q, rfl, ok.2.2, by omega⟩, fun d hd => ?_⟩
      obtain ⟨q', rfl, qo, qc⟩ := emp_post hd
      refine ⟨.merge ps p q, rfl, .merge ps p' q', rfl, ⟨ok.1, po, qo⟩, ?_⟩
      show p'.cnt + q'.cnt + 1 = p.cnt + q.cnt + 1
      rw [pc, qc]
    | seek p t i b =>
      have ok : p.Ok ∧ Word t ∧ Word i ∧ 1 ≤ b ∧ b ≤ 3 := ok
      have cn : p.cnt + 1 ≤ n + 1 := cn
      simp (decide := true) only [startD, tdSeq, tdNext, tdSet, tdSetO, tdDrop, tdRet, tdRetO, tdRetN, tdIfS, tdAsg, tdPar, tdBreak, tdCont, tdFor, tdV, tdC, tdOp, tdB, tdT, tdNotT, tdAndT, tdOrT, tdAnd, tdOr, tdNot, tdIf, tdNeg, tdTup, tdLst, tdNil, tdCons, tdStar, tdMut, tdM1, tdSl, tdoN, tdoS, tdFmt, tdJs, tdgN, tdgT, tdgNil, tdgCons, pdE, pdV, pdNil, pdCons, getL, peek, frz, onB, onL, onT, owL, unowned, wipeD, tiL, tiT, tiS, tiV, tiR1, tiR2, tiE, tiZ, ttY, tdLc, pAdd, pMul, pII, pII0, pSS, pEq2, pIn2, pOrd, pIx2, pSl2, pSlL, pCat, pIsN, pLen, pI1, pI2, pInt, pStrI, pList, pTuple, pAll, pAny, pRepr, pJoin, pmAppend, pmExtend, pmPopAt, List.map_cons, List.map_nil, List.cons_append, List.nil_append, List.append_nil, List.length_cons, List.length_nil, List.getElem?_cons_zero, List.getElem?_cons_succ, List.set_cons_zero, List.set_cons_succ, List.replicate_succ, List.replicate_zero, Function.comp, Nat.reduceAdd, Nat.reduceSub, Nat.reduceLT, true_and, and_true, if_true, if_false, Bool.false_eq_true, ite_true, ite_false, Bool.not_true, Bool.not_false, reduceCtorEq, eqOk_str, eqOk_int, eqOk_bl, eqD_str, eqD_int, eqD_bl, decide_eq_true_eq, false_implies, true_implies, Option.some.injEq, exists_eq_left, exists_eq_left', exists_eq', or_false, false_or, eq_self, at0, at1, at2, at3, at4, D.str.injEq, D.int.injEq, D.bl.injEq, D.tup.injEq, D.lst.injEq, List.cons.injEq, Sl.fz.injEq, Sl.ow.injEq, Pl.D, fsEmp_fr, cutD_2]
      refine ⟨⟨p, rfl, ok.1, by omega⟩, fun d hd => ?_⟩
      obtain ⟨q, rfl, qo, qc⟩ := emp_post hd
      exact ⟨.seek p t i b, rfl, .seek q t i b, rfl, ⟨qo, ok.2⟩, congrArg Nat.succ qc⟩
    | dist p =>
      have ok : p.Ok := ok
      have cn : p.cnt + 1 ≤ n + 1 := cn
      simp (decide := true) only [startD, tdSeq, tdNext, tdSet, tdSetO, tdDrop, tdRet, tdRetO, tdRetN, tdIfS, tdAsg, tdPar, tdBreak, tdCont, tdFor, tdV, tdC, tdOp, tdB, tdT, tdNotT, tdAndT, tdOrT, tdAnd, tdOr, tdNot, tdIf, tdNeg, tdTup, tdLst, tdNil, tdCons, tdStar, tdMut, tdM1, tdSl, tdoN, tdoS, tdFmt, tdJs, tdgN, tdgT, tdgNil, tdgCons, pdE, pdV, pdNil, pdCons, getL, peek, frz, onB, onL, onT, owL, unowned, wipeD, tiL, tiT, tiS, tiV, tiR1, tiR2, tiE, tiZ, ttY, tdLc, pAdd, pMul, pII, pII0, pSS, pEq2, pIn2, pOrd, pIx2, pSl2, pSlL, pCat, pIsN, pLen, pI1, pI2, pInt, pStrI, pList, pTuple, pAll, pAny, pRepr, pJoin, pmAppend, pmExtend, pmPopAt, List.map_cons, List.map_nil, List.cons_append, List.nil_append, List.append_nil, List.length_cons, List.length_nil, List.getElem?_cons_zero, List.getElem?_cons_succ, List.set_cons_zero, List.set_cons_succ, List.replicate_succ, List.replicate_zero, Function.comp, Nat.reduceAdd, Nat.reduceSub, Nat.reduceLT, true_and, and_true, if_true, if_false, Bool.false_eq_true, ite_true, ite_false, Bool.not_true, Bool.not_false, reduceCtorEq, eqOk_str, eqOk_int, eqOk_bl, eqD_str, eqD_int, eqD_bl, decide_eq_true_eq, false_implies, true_implies, Option.some.injEq, exists_eq_left, exists_eq_left', exists_eq', or_false, false_or, eq_self, at0, at1, at2, at3, at4, D.str.injEq, D.int.injEq, D.bl.injEq, D.tup.injEq, D.lst.injEq, List.cons.injEq, Sl.fz.injEq, Sl.ow.injEq, Pl.D, fsEmp_fr, cutD_2]
      refine ⟨⟨p, rfl, ok, by omega⟩, fun d hd => ?_⟩
      obtain ⟨q, rfl, qo, qc⟩ := emp_post hd
      exact ⟨.dist p, rfl, .dist q, rfl, qo, congrArg Nat.succ qc⟩
    | grps p =>
      have ok : p.Ok := ok
      have cn : p.cnt + 1 ≤ n + 1 := cn
      simp (decide := true) only [startD, tdSeq, tdNext, tdSet, tdSetO, tdDrop, tdRet, tdRetO, tdRetN, tdIfS, tdAsg, tdPar, tdBreak, tdCont, tdFor, tdV, tdC, tdOp, tdB, tdT, tdNotT, tdAndT, tdOrT, tdAnd, tdOr, tdNot, tdIf, tdNeg, tdTup, tdLst, tdNil, tdCons, tdStar, tdMut, tdM1, tdSl, tdoN, tdoS, tdFmt, tdJs, tdgN, tdgT, tdgNil, tdgCons, pdE, pdV, pdNil, pdCons, getL, peek, frz, onB, onL, onT, owL, unowned, wipeD, tiL, tiT, tiS, tiV, tiR1, tiR2, tiE, tiZ, ttY, tdLc, pAdd, pMul, pII, pII0, pSS, pEq2, pIn2, pOrd, pIx2, pSl2, pSlL, pCat, pIsN, pLen, pI1, pI2, pInt, pStrI, pList, pTuple, pAll, pAny, pRepr, pJoin, pmAppend, pmExtend, pmPopAt, List.map_cons, List.map_nil, List.cons_append, List.nil_append, List.append_nil, List.length_cons, List.length_nil, List.getElem?_cons_zero, List.getElem?_cons_succ, List.set_cons_zero, List.set_cons_succ, List.replicate_succ, List.replicate_zero, Function.comp, Nat.reduceAdd, Nat.reduceSub, Nat.reduceLT, true_and, and_true, if_true, if_false, Bool.false_eq_true, ite_true, ite_false, Bool.not_true, Bool.not_false, reduceCtorEq, eqOk_str, eqOk_int, eqOk_bl, eqD_str, eqD_int, eqD_bl, decide_eq_true_eq, false_implies, true_implies, Option.some.injEq, exists_eq_left, exists_eq_left', exists_eq', or_false, false_or, eq_self, at0, at1, at2, at3, at4, D.str.injEq, D.int.injEq, D.bl.injEq, D.tup.injEq, D.lst.injEq, List.cons.injEq, Sl.fz.injEq, Sl.ow.injEq, Pl.D, fsEmp_fr, cutD_2]
      refine ⟨⟨p, rfl, ok, by omega⟩, fun d hd => ?_⟩
      obtain ⟨q, rfl, qo, qc⟩ := emp_post hd
      exact ⟨.grps p, rfl, .grps q, rfl, qo, congrArg Nat.succ qc⟩
    | fst p =>
      have ok : p.Ok := ok
      have cn : p.cnt + 1 ≤ n + 1 := cn
      simp (decide := true) only [startD, tdSeq, tdNext, tdSet, tdSetO, tdDrop, tdRet, tdRetO, tdRetN, tdIfS, tdAsg, tdPar, tdBreak, tdCont, tdFor, tdV, tdC, tdOp, tdB, tdT, tdNotT, tdAndT, tdOrT, tdAnd, tdOr, tdNot, tdIf, tdNeg, tdTup, tdLst, tdNil, tdCons, tdStar, tdMut, tdM1, tdSl, tdoN, tdoS, tdFmt, tdJs, tdgN, tdgT, tdgNil, tdgCons, pdE, pdV, pdNil, pdCons, getL, peek, frz, onB, onL, onT, owL, unowned, wipeD, tiL, tiT, tiS, tiV, tiR1, tiR2, tiE, tiZ, ttY, tdLc, pAdd, pMul, pII, pII0, pSS, pEq2, pIn2, pOrd, pIx2, pSl2, pSlL, pCat, pIsN, pLen, pI1, pI2, pInt, pStrI, pList, pTuple, pAll, pAny, pRepr, pJoin, pmAppend, pmExtend, pmPopAt, List.map_cons, List.map_nil, List.cons_append, List.nil_append, List.append_nil, List.length_cons, List.length_nil, List.getElem?_cons_zero, List.getElem?_cons_succ, List.set_cons_zero, List.set_cons_succ, List.replicate_succ, List.replicate_zero, Function.comp, Nat.reduceAdd, Nat.reduceSub, Nat.reduceLT, true_and, and_true, if_true, if_false, Bool.false_eq_true, ite_true, ite_false, Bool.not_true, Bool.not_false, reduceCtorEq, eqOk_str, eqOk_int, eqOk_bl, eqD_str, eqD_int, eqD_bl, decide_eq_true_eq, false_implies, true_implies, Option.some.injEq, exists_eq_left, exists_eq_left', exists_eq', or_false, false_or, eq_self, at0, at1, at2, at3, at4, D.str.injEq, D.int.injEq, D.bl.injEq, D.tup.injEq, D.lst.injEq, List.cons.injEq, Sl.fz.injEq, Sl.ow.injEq, Pl.D, fsEmp_fr, cutD_2]
      refine ⟨⟨p, rfl, ok, by omega⟩, fun d hd => ?_⟩
      obtain ⟨q, rfl, qo, qc⟩ := emp_post hd
      exact ⟨.fst p, rfl, .fst q, rfl, qo, congrArg Nat.succ qc⟩
theorem way_at {k : Int} (h0 : k = 1 ∨ k = 2) : ∃ b : Bool, atI [D.str "distinct", D.str "groups"] (k - 1) = some (.str (if b then "distinct" else "groups")) := by
  rcases h0 with rfl | rfl
  · exact ⟨true, at0⟩
  · exact ⟨false, at1⟩
theorem ok__law_plan {f : Addr} {fd : FuncData} {f0 : Addr} {d0 : FuncData} {f1 : Addr} {d1 : FuncData} {f2 : Addr} {d2 : FuncData} {f3 : Addr} {d3 : FuncData} (F : Fun K "_law_plan" "_law_plan" s__law_plan f fd) (T : Blt K mg)
    (F__law_stream : Fun K "_law_stream" "_law_stream" s__law_stream f0 d0) (b__law_stream : Binds K d0 ["_law_pot_here", "_law_tables_here"] []) (g__law_stream : mg "_law_stream" = some (.ref f0)) (G__law_stream : FnG P w K mg base CX0 6 f0 d0 ["_law_pot_here", "_law_tables_here"] (spD K 2 fsStream))
    (F__law_draw : Fun K "_law_draw" "_law_draw" s__law_draw f1 d1) (b__law_draw : Binds K d1 ["_law_pot_here", "_law_many"] []) (g__law_draw : mg "_law_draw" = some (.ref f1)) (G__law_draw : FnG P w K mg base CX0 1 f1 d1 ["_law_pot_here", "_law_many"] (spD K 2 fsDraw))
    (F__law_entries_of : Fun K "_law_entries_of" "_law_entries_of" s__law_entries_of f2 d2) (b__law_entries_of : Binds K d2 ["_law_pot_here", "_law_references", "_law_most"] []) (g__law_entries_of : mg "_law_entries_of" = some (.ref f2)) (G__law_entries_of : FnG P w K mg base CX0 3 f2 d2 ["_law_pot_here", "_law_references", "_law_most"] (spD K 3 fsEO))
    (F__law_emptied : Fun K "_law_emptied" "_law_emptied" s__law_emptied f3 d3) (b__law_emptied : Binds K d3 ["_law_tree"] []) (g__law_emptied : mg "_law_emptied" = some (.ref f3)) (G__law_emptied : FnG P w K mg base CX0 14 f3 d3 ["_law_tree"] (spD K 1 (fsEmp 13))) : FnG P w K mg base CX0 15 f fd ["_law_pot_here", "_law_tables_here"] (spD K 2 fsPlanL) := by
  have sc := sc__law_plan
  refine okD (k := 14) F sc fun X hX hr gd => ?_
  obtain ⟨cdv, A, outer, s, H, E, rfl⟩ := hX
  refine ⟨_, (dss_cut (ds_asg (de_call1 G__law_stream (hr.mono (by omega)) gd (by rfl) g__law_stream F__law_stream.kp b__law_stream (da_cons (de_v 0) (da_cons (de_v 1) da_nil))) (dg_tup (n := 2) (by rfl) (dgs_cons (dg_name (i := 2) sc.nd rfl (.inl rfl)) (dgs_cons (dg_name (i := 3) sc.nd rfl (.inl rfl)) dgs_nil))))
      (dss_cut (ds_set (i := 4) sc.nd rfl (.inl rfl) (de_call1 G__law_draw (hr.mono (by omega)) gd (by rfl) g__law_draw F__law_draw.kp b__law_draw (da_cons (de_v 0) (da_cons de_int da_nil))))
      (dss_cut (ds_if (DW.dt (dw_or (dt_cmp (o_eq hr) r2_Eq (dp_v 4) (DE.dp de_int) (by first | exact nomark _ | rfl)) (dw_or1 (dt_cmp (o_eq hr) r2_Eq (dp_v 4) (DE.dp de_int) (by first | exact nomark _ | rfl))))) (dss_cons (ds_set (i := 2) sc.nd rfl (.inl rfl) (de_tup (da_cons (d_ix (DE.dp (de_lst (da_cons de_str (da_cons de_str da_nil)))) (DE.dp (d_sub (dp_v 4) (DE.dp de_int))) (fun _ _ => rfl)) (da_cons (de_v 2) da_nil))))
      (dss_one (ds_if (dt_cmp (o_eq hr) r2_Eq (DE.dp (de_call1 G__law_draw (hr.mono (by omega)) gd (by rfl) g__law_draw F__law_draw.kp b__law_draw (da_cons (de_v 0) (da_cons de_int da_nil)))) (DE.dp de_int) (by first | exact nomark _ | rfl)) (dss_one (ds_set (i := 2) sc.nd rfl (.inl rfl) (de_tup (da_cons de_str (da_cons (de_call1 G__law_entries_of (hr.mono (by omega)) gd (by rfl) g__law_entries_of F__law_entries_of.kp b__law_entries_of (da_cons (de_v 0) (da_cons (de_v 3) (da_cons de_int da_nil)))) (da_cons (de_v 2) da_nil)))))) dss_nil))) dss_nil)
      (dss_cut (ds_if (dt_cmp (o_eq hr) r2_Eq (dp_v 4) (DE.dp de_int) (by first | exact nomark _ | rfl)) (dss_one (ds_ret (de_call1 G__law_emptied (hr.mono (by omega)) gd (by rfl) g__law_emptied F__law_emptied.kp b__law_emptied (da_cons (de_v 2) da_nil)))) dss_nil)
      (dss_one (ds_ret (de_if (dt_cmp (o_eq hr) r2_Eq (DE.dp (de_call1 G__law_draw (hr.mono (by omega)) gd (by rfl) g__law_draw F__law_draw.kp b__law_draw (da_cons (de_v 0) (da_cons de_int da_nil)))) (DE.dp de_int) (by first | exact nomark _ | rfl)) (de_tup (da_cons de_str (da_cons (de_v 2) da_nil))) (de_v 2)))))))), fun ds l pre => ?_⟩
  obtain ⟨ts, rfl, l3, ok⟩ := pre
  have sl := sizeLine_eq
  refine ⟨fun δ => ∃ (p : Pl) (rs : List Str), p.Ok ∧ p.cnt ≤ 10 ∧ (rs ≠ [] ∧ rs.length ≤ 9 ∧ Refs rs) ∧ δ = [some (.fz .pot), some (.fz (.lst (ts.map Tb.D))), some (.fz p.D), some (.fz (.lst (rs.map D.str))), none], ?_, ?_⟩
  · simp only [startD, tdSeq, tdNext, tdSet, tdSetO, tdDrop, tdRet, tdRetO, tdRetN, tdIfS, tdAsg, tdPar, tdBreak, tdCont, tdFor, tdV, tdC, tdOp, tdB, tdT, tdNotT, tdAndT, tdOrT, tdAnd, tdOr, tdNot, tdIf, tdNeg, tdTup, tdLst, tdNil, tdCons, tdStar, tdMut, tdM1, tdSl, tdoN, tdoS, tdFmt, tdJs, tdgN, tdgT, tdgNil, tdgCons, pdE, pdV, pdNil, pdCons, getL, peek, frz, onB, onL, onT, owL, unowned, wipeD, tiL, tiT, tiS, tiV, tiR1, tiR2, tiE, tiZ, ttY, tdLc, pAdd, pMul, pII, pII0, pSS, pEq2, pIn2, pOrd, pIx2, pSl2, pSlL, pCat, pIsN, pLen, pI1, pI2, pInt, pStrI, pList, pTuple, pAll, pAny, pRepr, pJoin, pmAppend, pmExtend, pmPopAt, List.map_cons, List.map_nil, List.cons_append, List.nil_append, List.append_nil, List.length_cons, List.length_nil, List.getElem?_cons_zero, List.getElem?_cons_succ, List.set_cons_zero, List.set_cons_succ, List.replicate_succ, List.replicate_zero, Function.comp, Nat.reduceAdd, Nat.reduceSub, Nat.reduceLT, true_and, and_true, if_true, if_false, Bool.false_eq_true, ite_true, ite_false, Bool.not_true, Bool.not_false, reduceCtorEq, eqOk_str, eqOk_int, eqOk_bl, eqD_str, eqD_int, eqD_bl, decide_eq_true_eq, false_implies, true_implies, Option.some.injEq, exists_eq_left, exists_eq_left', exists_eq', or_false, false_or, eq_self, at0, at1, at2, at3, at4, D.str.injEq, D.int.injEq, D.bl.injEq, D.tup.injEq, D.lst.injEq, List.cons.injEq, Sl.fz.injEq, Sl.ow.injEq]
    refine ⟨⟨ts, rfl, l3, ok⟩, fun d ⟨p, rs, e, po, pc, g⟩ => ?_⟩
    rw [e]
    simp only [startD, tdSeq, tdNext, tdSet, tdSetO, tdDrop, tdRet, tdRetO, tdRetN, tdIfS, tdAsg, tdPar, tdBreak, tdCont, tdFor, tdV, tdC, tdOp, tdB, tdT, tdNotT, tdAndT, tdOrT, tdAnd, tdOr, tdNot, tdIf, tdNeg, tdTup, tdLst, tdNil, tdCons, tdStar, tdMut, tdM1, tdSl, tdoN, tdoS, tdFmt, tdJs, tdgN, tdgT, tdgNil, tdgCons, pdE, pdV, pdNil, pdCons, getL, peek, frz, onB, onL, onT, owL, unowned, wipeD, tiL, tiT, tiS, tiV, tiR1, tiR2, tiE, tiZ, ttY, tdLc, pAdd, pMul, pII, pII0, pSS, pEq2, pIn2, pOrd, pIx2, pSl2, pSlL, pCat, pIsN, pLen, pI1, pI2, pInt, pStrI, pList, pTuple, pAll, pAny, pRepr, pJoin, pmAppend, pmExtend, pmPopAt, List.map_cons, List.map_nil, List.cons_append, List.nil_append, List.append_nil, List.length_cons, List.length_nil, List.getElem?_cons_zero, List.getElem?_cons_succ, List.set_cons_zero, List.set_cons_succ, List.replicate_succ, List.replicate_zero, Function.comp, Nat.reduceAdd, Nat.reduceSub, Nat.reduceLT, true_and, and_true, if_true, if_false, Bool.false_eq_true, ite_true, ite_false, Bool.not_true, Bool.not_false, reduceCtorEq, eqOk_str, eqOk_int, eqOk_bl, eqD_str, eqD_int, eqD_bl, decide_eq_true_eq, false_implies, true_implies, Option.some.injEq, exists_eq_left, exists_eq_left', exists_eq', or_false, false_or, eq_self, at0, at1, at2, at3, at4, D.str.injEq, D.int.injEq, D.bl.injEq, D.tup.injEq, D.lst.injEq, List.cons.injEq, Sl.fz.injEq, Sl.ow.injEq]
    exact ⟨p, rs, po, pc, g, rfl, rfl⟩
  rintro _ ⟨p, rs, po, pc, gr, rfl⟩
  refine ⟨fun δ => ∃ k : Int, δ = [some (.fz .pot), some (.fz (.lst (ts.map Tb.D))), some (.fz p.D), some (.fz (.lst (rs.map D.str))), some (.fz (.int k))], ?_, ?_⟩
  · simp only [startD, tdSeq, tdNext, tdSet, tdSetO, tdDrop, tdRet, tdRetO, tdRetN, tdIfS, tdAsg, tdPar, tdBreak, tdCont, tdFor, tdV, tdC, tdOp, tdB, tdT, tdNotT, tdAndT, tdOrT, tdAnd, tdOr, tdNot, tdIf, tdNeg, tdTup, tdLst, tdNil, tdCons, tdStar, tdMut, tdM1, tdSl, tdoN, tdoS, tdFmt, tdJs, tdgN, tdgT, tdgNil, tdgCons, pdE, pdV, pdNil, pdCons, getL, peek, frz, onB, onL, onT, owL, unowned, wipeD, tiL, tiT, tiS, tiV, tiR1, tiR2, tiE, tiZ, ttY, tdLc, pAdd, pMul, pII, pII0, pSS, pEq2, pIn2, pOrd, pIx2, pSl2, pSlL, pCat, pIsN, pLen, pI1, pI2, pInt, pStrI, pList, pTuple, pAll, pAny, pRepr, pJoin, pmAppend, pmExtend, pmPopAt, List.map_cons, List.map_nil, List.cons_append, List.nil_append, List.append_nil, List.length_cons, List.length_nil, List.getElem?_cons_zero, List.getElem?_cons_succ, List.set_cons_zero, List.set_cons_succ, List.replicate_succ, List.replicate_zero, Function.comp, Nat.reduceAdd, Nat.reduceSub, Nat.reduceLT, true_and, and_true, if_true, if_false, Bool.false_eq_true, ite_true, ite_false, Bool.not_true, Bool.not_false, reduceCtorEq, eqOk_str, eqOk_int, eqOk_bl, eqD_str, eqD_int, eqD_bl, decide_eq_true_eq, false_implies, true_implies, Option.some.injEq, exists_eq_left, exists_eq_left', exists_eq', or_false, false_or, eq_self, at0, at1, at2, at3, at4, D.str.injEq, D.int.injEq, D.bl.injEq, D.tup.injEq, D.lst.injEq, List.cons.injEq, Sl.fz.injEq, Sl.ow.injEq, fsDraw]
    refine ⟨⟨by omega, by decide +kernel⟩, ?_⟩
    rintro d ⟨k, rfl, h0, h1⟩
    exact ⟨k, rfl⟩
  rintro _ ⟨k, rfl⟩
  refine ⟨fun δ => ∃ p : Pl, p.Ok ∧ p.cnt ≤ 12 ∧ δ = [some (.fz .pot), some (.fz (.lst (ts.map Tb.D))), some (.fz p.D), some (.fz (.lst (rs.map D.str))), some (.fz (.int k))], ?_, ?_⟩
  · simp only [startD, tdSeq, tdNext, tdSet, tdSetO, tdDrop, tdRet, tdRetO, tdRetN, tdIfS, tdAsg, tdPar, tdBreak, tdCont, tdFor, tdV, tdC, tdOp, tdB, tdT, tdNotT, tdAndT, tdOrT, tdAnd, tdOr, tdNot, tdIf, tdNeg, tdTup, tdLst, tdNil, tdCons, tdStar, tdMut, tdM1, tdSl, tdoN, tdoS, tdFmt, tdJs, tdgN, tdgT, tdgNil, tdgCons, pdE, pdV, pdNil, pdCons, getL, peek, frz, onB, onL, onT, owL, unowned, wipeD, tiL, tiT, tiS, tiV, tiR1, tiR2, tiE, tiZ, ttY, tdLc, pAdd, pMul, pII, pII0, pSS, pEq2, pIn2, pOrd, pIx2, pSl2, pSlL, pCat, pIsN, pLen, pI1, pI2, pInt, pStrI, pList, pTuple, pAll, pAny, pRepr, pJoin, pmAppend, pmExtend, pmPopAt, List.map_cons, List.map_nil, List.cons_append, List.nil_append, List.append_nil, List.length_cons, List.length_nil, List.getElem?_cons_zero, List.getElem?_cons_succ, List.set_cons_zero, List.set_cons_succ, List.replicate_succ, List.replicate_zero, Function.comp, Nat.reduceAdd, Nat.reduceSub, Nat.reduceLT, true_and, and_true, if_true, if_false, Bool.false_eq_true, ite_true, ite_false, Bool.not_true, Bool.not_false, reduceCtorEq, eqOk_str, eqOk_int, eqOk_bl, eqD_str, eqD_int, eqD_bl, decide_eq_true_eq, false_implies, true_implies, Option.some.injEq, exists_eq_left, exists_eq_left', exists_eq', or_false, false_or, eq_self, at0, at1, at2, at3, at4, D.str.injEq, D.int.injEq, D.bl.injEq, D.tup.injEq, D.lst.injEq, List.cons.injEq, Sl.fz.injEq, Sl.ow.injEq, fsDraw]
    have go : k = 1 ∨ k = 2 → ∃ d, atI [D.str "distinct", D.str "groups"] (k - 1) = some d ∧ ∃ q : Pl, q.Ok ∧ q.cnt = p.cnt + 1 ∧ D.tup [d, p.D] = q.D := fun h => by
      obtain ⟨b, e⟩ := way_at h
      refine ⟨_, e, ?_⟩
      cases b
      · exact ⟨.grps p, po, rfl, rfl⟩
      · exact ⟨.dist p, po, rfl, rfl⟩
    have go2 : ∀ d, (∃ q : Pl, q.Ok ∧ q.cnt = p.cnt + 1 ∧ D.tup [d, p.D] = q.D) → 2 ≤ sizeLine ∧ (0 < (2 : Int) ∧ (2 : Int) < 2 ^ 200) ∧ ∀ (d_1 : D), (∃ k : Int, d_1 = D.int k ∧ 0 ≤ k ∧ k < 2) → eqOk d_1 (D.int 0) ∧
        if eqD d_1 (D.int 0) = true then fsEO.pre [D.pot, D.lst (List.map D.str rs), D.int 3] ∧ ∀ (d_2 : D), fsEO.post [D.pot, D.lst (List.map D.str rs), D.int 3] d_2 → 3 ≤ sizeLine ∧ ∃ p_1 : Pl, p_1.Ok ∧ p_1.cnt ≤ 12 ∧ D.tup [D.str "sort", d_2, D.tup [d, p.D]] = p_1.D
        else ∃ p_1 : Pl, p_1.Ok ∧ p_1.cnt ≤ 12 ∧ D.tup [d, p.D] = p_1.D := fun d ⟨q, qo, qc, e⟩ => by
      refine ⟨by omega, ⟨by decide, by decide +kernel⟩, ?_⟩
      rintro d ⟨k, rfl, h0, h1⟩
      simp only [startD, tdSeq, tdNext, tdSet, tdSetO, tdDrop, tdRet, tdRetO, tdRetN, tdIfS, tdAsg, tdPar, tdBreak, tdCont, tdFor, tdV, tdC, tdOp, tdB, tdT, tdNotT, tdAndT, tdOrT, tdAnd, tdOr, tdNot, tdIf, tdNeg, tdTup, tdLst, tdNil, tdCons, tdStar, tdMut, tdM1, tdSl, tdoN, tdoS, tdFmt, tdJs, tdgN, tdgT, tdgNil, tdgCons, pdE, pdV, pdNil, pdCons, getL, peek, frz, onB, onL, onT, owL, unowned, wipeD, tiL, tiT, tiS, tiV, tiR1, tiR2, tiE, tiZ, ttY, tdLc, pAdd, pMul, pII, pII0, pSS, pEq2, pIn2, pOrd, pIx2, pSl2, pSlL, pCat, pIsN, pLen, pI1, pI2, pInt, pStrI, pList, pTuple, pAll, pAny, pRepr, pJoin, pmAppend, pmExtend, pmPopAt, List.map_cons, List.map_nil, List.cons_append, List.nil_append, List.append_nil, List.length_cons, List.length_nil, List.getElem?_cons_zero, List.getElem?_cons_succ, List.set_cons_zero, List.set_cons_succ, List.replicate_succ, List.replicate_zero, Function.comp, Nat.reduceAdd, Nat.reduceSub, Nat.reduceLT, true_and, and_true, if_true, if_false, Bool.false_eq_true, ite_true, ite_false, Bool.not_true, Bool.not_false, reduceCtorEq, eqOk_str, eqOk_int, eqOk_bl, eqD_str, eqD_int, eqD_bl, decide_eq_true_eq, false_implies, true_implies, Option.some.injEq, exists_eq_left, exists_eq_left', exists_eq', or_false, false_or, eq_self, at0, at1, at2, at3, at4, D.str.injEq, D.int.injEq, D.bl.injEq, D.tup.injEq, D.lst.injEq, List.cons.injEq, Sl.fz.injEq, Sl.ow.injEq]
      split
      · refine ⟨⟨rs, 3, rfl, gr.2.1, gr.2.2, by omega, by omega⟩, fun d ⟨es, e2, l, g⟩ => ⟨by omega, .sort es q, ⟨⟨l, g⟩, qo⟩, by show q.cnt + 1 ≤ 12; omega, ?_⟩⟩
        rw [e, e2]
        rfl
      · exact ⟨q, qo, by omega, e⟩
    split
    · rename_i h
      obtain ⟨d, e, z⟩ := go (.inl h)
      exact ⟨by omega, d, e, go2 d z⟩
    · split
      · rename_i h
        obtain ⟨d, e, z⟩ := go (.inr h)
        exact ⟨by omega, d, e, go2 d z⟩
      · exact ⟨p, po, by omega, rfl⟩
  clear po pc
  rintro _ ⟨p, po, pc, rfl⟩
  refine ⟨fun δ => δ = [some (.fz .pot), some (.fz (.lst (ts.map Tb.D))), some (.fz p.D), some (.fz (.lst (rs.map D.str))), some (.fz (.int k))], ?_, ?_⟩
  · simp only [startD, tdSeq, tdNext, tdSet, tdSetO, tdDrop, tdRet, tdRetO, tdRetN, tdIfS, tdAsg, tdPar, tdBreak, tdCont, tdFor, tdV, tdC, tdOp, tdB, tdT, tdNotT, tdAndT, tdOrT, tdAnd, tdOr, tdNot, tdIf, tdNeg, tdTup, tdLst, tdNil, tdCons, tdStar, tdMut, tdM1, tdSl, tdoN, tdoS, tdFmt, tdJs, tdgN, tdgT, tdgNil, tdgCons, pdE, pdV, pdNil, pdCons, getL, peek, frz, onB, onL, onT, owL, unowned, wipeD, tiL, tiT, tiS, tiV, tiR1, tiR2, tiE, tiZ, ttY, tdLc, pAdd, pMul, pII, pII0, pSS, pEq2, pIn2, pOrd, pIx2, pSl2, pSlL, pCat, pIsN, pLen, pI1, pI2, pInt, pStrI, pList, pTuple, pAll, pAny, pRepr, pJoin, pmAppend, pmExtend, pmPopAt, List.map_cons, List.map_nil, List.cons_append, List.nil_append, List.append_nil, List.length_cons, List.length_nil, List.getElem?_cons_zero, List.getElem?_cons_succ, List.set_cons_zero, List.set_cons_succ, List.replicate_succ, List.replicate_zero, Function.comp, Nat.reduceAdd, Nat.reduceSub, Nat.reduceLT, true_and, and_true, if_true, if_false, Bool.false_eq_true, ite_true, ite_false, Bool.not_true, Bool.not_false, reduceCtorEq, eqOk_str, eqOk_int, eqOk_bl, eqD_str, eqD_int, eqD_bl, decide_eq_true_eq, false_implies, true_implies, Option.some.injEq, exists_eq_left, exists_eq_left', exists_eq', or_false, false_or, eq_self, at0, at1, at2, at3, at4, D.str.injEq, D.int.injEq, D.bl.injEq, D.tup.injEq, D.lst.injEq, List.cons.injEq, Sl.fz.injEq, Sl.ow.injEq, fsEmp_fr, fsPlanL_fr]
    split
    · refine ⟨⟨p, rfl, po, by omega⟩, fun d hd => ?_⟩
      obtain ⟨q, rfl, qo, qc⟩ := emp_post hd
      exact ⟨q, rfl, qo, by omega⟩
    · trivial
  rintro _ rfl
  simp only [startD, tdSeq, tdNext, tdSet, tdSetO, tdDrop, tdRet, tdRetO, tdRetN, tdIfS, tdAsg, tdPar, tdBreak, tdCont, tdFor, tdV, tdC, tdOp, tdB, tdT, tdNotT, tdAndT, tdOrT, tdAnd, tdOr, tdNot, tdIf, tdNeg, tdTup, tdLst, tdNil, tdCons, tdStar, tdMut, tdM1, tdSl, tdoN, tdoS, tdFmt, tdJs, tdgN, tdgT, tdgNil, tdgCons, pdE, pdV, pdNil, pdCons, getL, peek, frz, onB, onL, onT, owL, unowned, wipeD, tiL, tiT, tiS, tiV, tiR1, tiR2, tiE, tiZ, ttY, tdLc, pAdd, pMul, pII, pII0, pSS, pEq2, pIn2, pOrd, pIx2, pSl2, pSlL, pCat, pIsN, pLen, pI1, pI2, pInt, pStrI, pList, pTuple, pAll, pAny, pRepr, pJoin, pmAppend, pmExtend, pmPopAt, List.map_cons, List.map_nil, List.cons_append, List.nil_append, List.append_nil, List.length_cons, List.length_nil, List.getElem?_cons_zero, List.getElem?_cons_succ, List.set_cons_zero, List.set_cons_succ, List.replicate_succ, List.replicate_zero, Function.comp, Nat.reduceAdd, Nat.reduceSub, Nat.reduceLT, true_and, and_true, if_true, if_false, Bool.false_eq_true, ite_true, ite_false, Bool.not_true, Bool.not_false, reduceCtorEq, eqOk_str, eqOk_int, eqOk_bl, eqD_str, eqD_int, eqD_bl, decide_eq_true_eq, false_implies, true_implies, Option.some.injEq, exists_eq_left, exists_eq_left', exists_eq', or_false, false_or, eq_self, at0, at1, at2, at3, at4, D.str.injEq, D.int.injEq, D.bl.injEq, D.tup.injEq, D.lst.injEq, List.cons.injEq, Sl.fz.injEq, Sl.ow.injEq, fsPlanL_fr, fsDraw]
  refine ⟨⟨by omega, by decide +kernel⟩, ?_⟩
  rintro d ⟨j, rfl, h0, h1⟩
  simp only [startD, tdSeq, tdNext, tdSet, tdSetO, tdDrop, tdRet, tdRetO, tdRetN, tdIfS, tdAsg, tdPar, tdBreak, tdCont, tdFor, tdV, tdC, tdOp, tdB, tdT, tdNotT, tdAndT, tdOrT, tdAnd, tdOr, tdNot, tdIf, tdNeg, tdTup, tdLst, tdNil, tdCons, tdStar, tdMut, tdM1, tdSl, tdoN, tdoS, tdFmt, tdJs, tdgN, tdgT, tdgNil, tdgCons, pdE, pdV, pdNil, pdCons, getL, peek, frz, onB, onL, onT, owL, unowned, wipeD, tiL, tiT, tiS, tiV, tiR1, tiR2, tiE, tiZ, ttY, tdLc, pAdd, pMul, pII, pII0, pSS, pEq2, pIn2, pOrd, pIx2, pSl2, pSlL, pCat, pIsN, pLen, pI1, pI2, pInt, pStrI, pList, pTuple, pAll, pAny, pRepr, pJoin, pmAppend, pmExtend, pmPopAt, List.map_cons, List.map_nil, List.cons_append, List.nil_append, List.append_nil, List.length_cons, List.length_nil, List.getElem?_cons_zero, List.getElem?_cons_succ, List.set_cons_zero, List.set_cons_succ, List.replicate_succ, List.replicate_zero, Function.comp, Nat.reduceAdd, Nat.reduceSub, Nat.reduceLT, true_and, and_true, if_true, if_false, Bool.false_eq_true, ite_true, ite_false, Bool.not_true, Bool.not_false, reduceCtorEq, eqOk_str, eqOk_int, eqOk_bl, eqD_str, eqD_int, eqD_bl, decide_eq_true_eq, false_implies, true_implies, Option.some.injEq, exists_eq_left, exists_eq_left', exists_eq', or_false, false_or, eq_self, at0, at1, at2, at3, at4, D.str.injEq, D.int.injEq, D.bl.injEq, D.tup.injEq, D.lst.injEq, List.cons.injEq, Sl.fz.injEq, Sl.ow.injEq]
  split
  · exact ⟨by omega, .fst p, rfl, po, by show p.cnt + 1 ≤ 13; omega⟩
  · exact ⟨p, rfl, po, by omega⟩
end
end K96


set_option Elab.async false
set_option linter.all false
set_option maxRecDepth 100000
set_option maxHeartbeats 8000000
namespace K96
open PySem PySem.Spec L2 PSG PSS DL TL
open PyProof.Rows (IntsAre AllBare)

/-! ### two plans that differ have two texts -/
theorem spl {c : Nat} : ∀ {a b s t : List Nat}, c ∉ a → c ∉ b → a ++ c :: s = b ++ c :: t → a = b ∧ s = t
  | [], [], _, _, _, _, h => ⟨rfl, (List.cons.inj h).2⟩
  | [], y :: b, _, _, _, hb, h => absurd (List.cons.inj h).1 (fun e => hb (by rw [e]; exact List.mem_cons_self))
  | x :: a, [], _, _, ha, _, h => absurd (List.cons.inj h).1 (fun e => ha (by rw [← e]; exact List.mem_cons_self))
  | x :: a, y :: b, _, _, ha, hb, h => by
    obtain ⟨e, h⟩ := List.cons.inj h
    obtain ⟨e2, z⟩ := spl (fun m => ha (List.mem_cons_of_mem _ m)) (fun m => hb (List.mem_cons_of_mem _ m)) h
    exact ⟨by rw [e, e2], z⟩
theorem joinL_mem {c : Nat} {s : List Nat} : ∀ {xs : List (List Nat)}, c ∈ joinL s xs → c ∈ s ∨ ∃ x ∈ xs, c ∈ x
  | [], m => nomatch m
  | [x], m => .inr ⟨x, List.mem_cons_self, m⟩
  | x :: y :: r, m => by
    have m : c ∈ x ++ (s ++ joinL s (y :: r)) := m
    rcases List.mem_append.mp m with m | m
    · exact .inr ⟨x, List.mem_cons_self, m⟩
    · rcases List.mem_append.mp m with m | m
      · exact .inl m
      · rcases joinL_mem m with m | ⟨z, mz, m⟩
        · exact .inl m
        · exact .inr ⟨z, List.mem_cons_of_mem _ mz, m⟩
theorem joinL_inj {c : Nat} {u : List Nat} : ∀ {xs ys : List (List Nat)}, (∀ x ∈ xs, c ∉ x) → (∀ y ∈ ys, c ∉ y) → xs ≠ [] → ys ≠ [] → joinL (c :: u) xs = joinL (c :: u) ys → xs = ys
  | [], _, _, _, h, _, _ => absurd rfl h
  | _, [], _, _, _, h, _ => absurd rfl h
  | [x], [y], _, _, _, _, h => by
    have h : x = y := h
    rw [h]
  | [x], y :: y2 :: r, hx, _, _, _, h => by
    have h : x = y ++ (c :: u ++ joinL (c :: u) (y2 :: r)) := h
    exact absurd (show c ∈ x by rw [h]; exact List.mem_append_right _ List.mem_cons_self) (hx x List.mem_cons_self)
  | x :: x2 :: r, [y], _, hy, _, _, h => by
    have h : x ++ (c :: u ++ joinL (c :: u) (x2 :: r)) = y := h
    exact absurd (show c ∈ y by rw [← h]; exact List.mem_append_right _ List.mem_cons_self) (hy y List.mem_cons_self)
  | x :: x2 :: r, y :: y2 :: r2, hx, hy, _, _, h => by
    have h : x ++ c :: (u ++ joinL (c :: u) (x2 :: r)) = y ++ c :: (u ++ joinL (c :: u) (y2 :: r2)) := h
    obtain ⟨e, z⟩ := spl (hx x List.mem_cons_self) (hy y List.mem_cons_self) h
    have z := joinL_inj (fun a m => hx a (List.mem_cons_of_mem _ m)) (fun a m => hy a (List.mem_cons_of_mem _ m)) (List.cons_ne_nil _ _) (List.cons_ne_nil _ _) (List.append_cancel_left z)
    rw [e, z]
theorem Word.no {x : Str} (h : Word x) {c : Nat} (hc : c < 97) : c ∉ tl x := fun m => by have := h.az c m; omega
theorem Ref.no {x : Str} (h : Ref x) {c : Nat} (hc : c < 97) (h2 : c ≠ 46) : c ∉ tl x := fun m => by have := h.ch c m; omega
theorem Ref.dot {x : Str} (h : Ref x) : 46 ∈ tl x := by
  obtain ⟨t, w, _, _, e⟩ := h
  rw [e]
  exact List.mem_append_left _ (List.mem_append_right _ List.mem_cons_self)
theorem chars : tl (Str.ofString "heap(") = [104, 101, 97, 112, 40] ∧ tl (Str.ofString "index(") = [105, 110, 100, 101, 120, 40] ∧ tl (Str.ofString "sort(") = [115, 111, 114, 116, 40] ∧ tl (Str.ofString "merge(") = [109, 101, 114, 103, 101, 40] ∧ tl (Str.ofString "seek(") = [115, 101, 101, 107, 40] ∧
    tl (Str.ofString "distinct(") = [100, 105, 115, 116, 105, 110, 99, 116, 40] ∧ tl (Str.ofString "groups(") = [103, 114, 111, 117, 112, 115, 40] ∧ tl (Str.ofString "first(") = [102, 105, 114, 115, 116, 40] ∧ tl (Str.ofString ")") = [41] ∧ tl (Str.ofString "; ") = [59, 32] ∧ tl (Str.ofString ", ") = [44, 32] ∧
    tl (Str.ofString " = ") = [32, 61, 32] ∧ tl (Str.ofString " down") = [32, 100, 111, 119, 110] ∧ tl (Str.ofString "none") = [110, 111, 110, 101] := by decide
theorem etx_no {e : En} (h : Ref e.1) {c : Nat} (hc : c < 97) (h2 : c ≠ 46) (h3 : c ≠ 32) : c ∉ etx e := by
  obtain ⟨x, b⟩ := e
  unfold etx
  have n := Ref.no h hc h2
  cases b
  · simp only [Bool.false_eq_true, if_false, List.append_nil]
    exact n
  · simp only [if_true, chars, List.mem_append, List.mem_cons, List.not_mem_nil, not_or]
    exact ⟨n, h3, by omega, by omega, by omega, by omega, fun z => z⟩
theorem etx_inj {e f : En} (h : Ref e.1) (h2 : Ref f.1) (z : etx e = etx f) : e = f := by
  obtain ⟨x, b⟩ := e
  obtain ⟨y, c⟩ := f
  unfold etx at z
  have n1 : 32 ∉ tl x := Ref.no h (by decide) (by decide)
  have n2 : 32 ∉ tl y := Ref.no h2 (by decide) (by decide)
  cases b <;> cases c
  · simp only [Bool.false_eq_true, if_false, List.append_nil] at z
    rw [str_eq z]
  · simp only [Bool.false_eq_true, if_false, if_true, List.append_nil, chars] at z
    exact absurd (show 32 ∈ tl x by rw [z]; exact List.mem_append_right _ List.mem_cons_self) n1
  · simp only [Bool.false_eq_true, if_false, if_true, List.append_nil, chars] at z
    exact absurd (show 32 ∈ tl y by rw [← z]; exact List.mem_append_right _ List.mem_cons_self) n2
  · simp only [if_true, chars] at z
    rw [str_eq (spl n1 n2 z).1]
theorem maps_inj {α β : Type} {f : α → β} {p : α → Prop} (hf : ∀ a b, p a → p b → f a = f b → a = b) : ∀ {xs ys : List α}, (∀ x ∈ xs, p x) → (∀ y ∈ ys, p y) → xs.map f = ys.map f → xs = ys
  | [], [], _, _, _ => rfl
  | [], _ :: _, _, _, h => nomatch h
  | _ :: _, [], _, _, h => nomatch h
  | x :: xs, y :: ys, hx, hy, h => by
    rw [List.map_cons, List.map_cons, List.cons.injEq] at h
    rw [hf x y (hx x List.mem_cons_self) (hy y List.mem_cons_self) h.1, maps_inj hf (fun a m => hx a (List.mem_cons_of_mem _ m)) (fun a m => hy a (List.mem_cons_of_mem _ m)) h.2]
theorem estx_dot {es : List En} (h : ∀ e ∈ es, Ref e.1) (ne : es ≠ []) : 46 ∈ joinL (tl ", ") (es.map etx) := by
  cases es with
  | nil => exact absurd rfl ne
  | cons e r =>
    have d : 46 ∈ etx e := by
      unfold etx
      exact List.mem_append_left _ (h e List.mem_cons_self).dot
    cases r with
    | nil => exact d
    | cons f r => exact List.mem_append_left _ d
theorem estx_no {es : List En} (h : ∀ e ∈ es, Ref e.1) : 59 ∉ estx es := by
  unfold estx
  split
  · rw [chars.2.2.2.2.2.2.2.2.2.2.2.2.2]
    decide
  · intro m
    rcases joinL_mem m with m | ⟨x, mx, m⟩
    · rw [chars.2.2.2.2.2.2.2.2.2.2.1] at m
      exact absurd m (by decide)
    · obtain ⟨e, me, rfl⟩ := List.mem_map.mp mx
      exact etx_no (h e me) (by decide) (by decide) (by decide) m
theorem estx_inj {es fs : List En} (h : ∀ e ∈ es, Ref e.1) (h2 : ∀ e ∈ fs, Ref e.1) (z : estx es = estx fs) : es = fs := by
  unfold estx at z
  split at z
  · rename_i e0
    split at z
    · rename_i f0
      rw [e0, f0]
    · rename_i f0
      have d := estx_dot h2 f0
      rw [← z, chars.2.2.2.2.2.2.2.2.2.2.2.2.2] at d
      exact absurd d (by decide)
  · rename_i e0
    split at z
    · rename_i f0
      have d := estx_dot h e0
      rw [z, chars.2.2.2.2.2.2.2.2.2.2.2.2.2] at d
      exact absurd d (by decide)
    · rename_i f0
      rw [chars.2.2.2.2.2.2.2.2.2.2.1] at z
      refine maps_inj (f := etx) (p := fun e => Ref e.1) (fun a b ha hb => etx_inj ha hb) h h2 (joinL_inj (fun x m => ?_) (fun x m => ?_) (fun e => e0 (List.map_eq_nil_iff.mp e)) (fun e => f0 (List.map_eq_nil_iff.mp e)) z)
      · obtain ⟨e, me, rfl⟩ := List.mem_map.mp m
        exact etx_no (h e me) (by decide) (by decide) (by decide)
      · obtain ⟨e, me, rfl⟩ := List.mem_map.mp m
        exact etx_no (h2 e me) (by decide) (by decide) (by decide)
abbrev PR (e : Pr) : Prop := Ref e.1 ∧ Ref e.2.1
theorem prtx_no {e : Pr} (h : PR e) {c : Nat} (hc : c < 97) (h2 : c ≠ 46) (h3 : c ≠ 32) (h4 : c ≠ 61) : c ∉ prtx e := by
  unfold prtx
  have n1 := Ref.no h.1 hc h2
  have n2 := etx_no (e := (e.2.1, e.2.2)) h.2 hc h2 h3
  simp only [chars, List.mem_append, List.mem_cons, List.not_mem_nil, not_or]
  exact ⟨⟨n1, h3, h4, h3, fun z => z⟩, n2⟩
theorem prtx_inj {e f : Pr} (h : PR e) (h2 : PR f) (z : prtx e = prtx f) : e = f := by
  unfold prtx at z
  simp only [chars, List.append_assoc, List.cons_append, List.nil_append] at z
  obtain ⟨z1, z2⟩ := spl (Ref.no h.1 (by decide) (by decide)) (Ref.no h2.1 (by decide) (by decide)) z
  have z3 := etx_inj (e := (e.2.1, e.2.2)) (f := (f.2.1, f.2.2)) h.2 h2.2 (List.cons.inj (List.cons.inj z2).2).2
  obtain ⟨a, b, c⟩ := e
  obtain ⟨a', b', c'⟩ := f
  have z1 : a = a' := str_eq z1
  rw [z1]
  congr 1
theorem prstx_no {ps : List Pr} (h : ∀ e ∈ ps, PR e) : 59 ∉ prstx ps := by
  unfold prstx
  intro m
  rcases joinL_mem m with m | ⟨x, mx, m⟩
  · rw [chars.2.2.2.2.2.2.2.2.2.2.1] at m
    exact absurd m (by decide)
  · obtain ⟨e, me, rfl⟩ := List.mem_map.mp mx
    exact prtx_no (h e me) (by decide) (by decide) (by decide) (by decide) m
theorem prstx_inj {es fs : List Pr} (h : ∀ e ∈ es, PR e) (h2 : ∀ e ∈ fs, PR e) (e0 : es ≠ []) (f0 : fs ≠ []) (z : prstx es = prstx fs) : es = fs := by
  unfold prstx at z
  rw [chars.2.2.2.2.2.2.2.2.2.2.1] at z
  refine maps_inj (f := prtx) (p := PR) (fun a b ha hb => prtx_inj ha hb) h h2 (joinL_inj (fun x m => ?_) (fun x m => ?_) (fun e => e0 (List.map_eq_nil_iff.mp e)) (fun e => f0 (List.map_eq_nil_iff.mp e)) z)
  · obtain ⟨e, me, rfl⟩ := List.mem_map.mp m
    exact prtx_no (h e me) (by decide) (by decide) (by decide) (by decide)
  · obtain ⟨e, me, rfl⟩ := List.mem_map.mp m
    exact prtx_no (h2 e me) (by decide) (by decide) (by decide) (by decide)
theorem dig {b : Int} (h1 : 1 ≤ b) (h2 : b ≤ 3) : tl (toString b) = [48 + b.toNat] := by
  have : b = 1 ∨ b = 2 ∨ b = 3 := by omega
  rcases this with rfl | rfl | rfl <;> decide +kernel
theorem tx_inj : ∀ {p q : Pl}, p.Ok → q.Ok → ∀ {s t : List Nat}, p.tx ++ s = q.tx ++ t → p = q ∧ s = t := by
  intro p
  induction p with
  | heap x =>
    intro q ho ho2 s t h
    cases q <;> simp only [Pl.tx, chars, List.append_assoc, List.cons_append, List.nil_append, List.cons.injEq, true_and, false_and, and_false, Nat.reduceEqDiff, reduceCtorEq] at h
    have ho : Word x := ho
    have ho2 : Word _ := ho2
    obtain ⟨e, z⟩ := spl (ho.no (by decide)) (ho2.no (by decide)) h
    exact ⟨by rw [str_eq e], z⟩
  | index x i =>
    intro q ho ho2 s t h
    cases q <;> simp only [Pl.tx, chars, List.append_assoc, List.cons_append, List.nil_append, List.cons.injEq, true_and, false_and, and_false, Nat.reduceEqDiff, reduceCtorEq] at h
    have ho : Word x ∧ Word i := ho
    have ho2 : Word _ ∧ Word _ := ho2
    obtain ⟨e, z⟩ := spl (ho.1.no (by decide)) (ho2.1.no (by decide)) h
    obtain ⟨e2, z⟩ := spl (ho.2.no (by decide)) (ho2.2.no (by decide)) (List.cons.inj z).2
    exact ⟨by rw [str_eq e, str_eq e2], z⟩
  | sort es p ih =>
    intro q ho ho2 s t h
    cases q <;> simp only [Pl.tx, chars, List.append_assoc, List.cons_append, List.nil_append, List.cons.injEq, true_and, false_and, and_false, Nat.reduceEqDiff, reduceCtorEq] at h
    rename_i fs q
    have ho : (es.length ≤ 8 ∧ ∀ e ∈ es, Ref e.1) ∧ p.Ok := ho
    have ho2 : (fs.length ≤ 8 ∧ ∀ e ∈ fs, Ref e.1) ∧ q.Ok := ho2
    obtain ⟨e, z⟩ := spl (estx_no ho.1.2) (estx_no ho2.1.2) h
    obtain ⟨e2, z⟩ := ih ho.2 ho2.2 (List.cons.inj z).2
    exact ⟨by rw [estx_inj ho.1.2 ho2.1.2 e, e2], (List.cons.inj z).2⟩
  | merge ps p q ih1 ih2 =>
    intro q' ho ho2 s t h
    cases q' <;> simp only [Pl.tx, chars, List.append_assoc, List.cons_append, List.nil_append, List.cons.injEq, true_and, false_and, and_false, Nat.reduceEqDiff, reduceCtorEq] at h
    rename_i fs p' q'
    have ho : (ps ≠ [] ∧ ps.length ≤ 3 ∧ ∀ e ∈ ps, Ref e.1 ∧ Ref e.2.1) ∧ p.Ok ∧ q.Ok := ho
    have ho2 : (fs ≠ [] ∧ fs.length ≤ 3 ∧ ∀ e ∈ fs, Ref e.1 ∧ Ref e.2.1) ∧ p'.Ok ∧ q'.Ok := ho2
    obtain ⟨e, z⟩ := spl (prstx_no ho.1.2.2) (prstx_no ho2.1.2.2) h
    obtain ⟨e2, z⟩ := ih1 ho.2.1 ho2.2.1 (List.cons.inj z).2
    obtain ⟨e3, z⟩ := ih2 ho.2.2 ho2.2.2 (List.cons.inj (List.cons.inj z).2).2
    exact ⟨by rw [prstx_inj ho.1.2.2 ho2.1.2.2 ho.1.1 ho2.1.1 e, e2, e3], (List.cons.inj z).2⟩
  | seek p x i b ih =>
    intro q ho ho2 s t h
    cases q <;> simp only [Pl.tx, chars, List.append_assoc, List.cons_append, List.nil_append, List.cons.injEq, true_and, false_and, and_false, Nat.reduceEqDiff, reduceCtorEq] at h
    rename_i q y j c
    have ho : p.Ok ∧ Word x ∧ Word i ∧ 1 ≤ b ∧ b ≤ 3 := ho
    have ho2 : q.Ok ∧ Word y ∧ Word j ∧ 1 ≤ c ∧ c ≤ 3 := ho2
    rw [dig ho.2.2.2.1 ho.2.2.2.2, dig ho2.2.2.2.1 ho2.2.2.2.2] at h
    obtain ⟨e, z⟩ := ih ho.1 ho2.1 h
    obtain ⟨e2, z⟩ := spl (ho.2.1.no (by decide)) (ho2.2.1.no (by decide)) (List.cons.inj (List.cons.inj z).2).2
    obtain ⟨e3, z⟩ := spl (ho.2.2.1.no (by decide)) (ho2.2.2.1.no (by decide)) (List.cons.inj z).2
    obtain ⟨e4, z⟩ := List.cons.inj (List.cons.inj z).2
    have e5 : b = c := by omega
    exact ⟨by rw [e, str_eq e2, str_eq e3, e5], (List.cons.inj z).2⟩
  | dist p ih =>
    intro q ho ho2 s t h
    cases q <;> simp only [Pl.tx, chars, List.append_assoc, List.cons_append, List.nil_append, List.cons.injEq, true_and, false_and, and_false, Nat.reduceEqDiff, reduceCtorEq] at h
    rename_i q
    have ho2 : q.Ok := ho2
    obtain ⟨e, z⟩ := ih ho ho2 h
    exact ⟨by rw [e], (List.cons.inj z).2⟩
  | grps p ih =>
    intro q ho ho2 s t h
    cases q <;> simp only [Pl.tx, chars, List.append_assoc, List.cons_append, List.nil_append, List.cons.injEq, true_and, false_and, and_false, Nat.reduceEqDiff, reduceCtorEq] at h
    rename_i q
    have ho2 : q.Ok := ho2
    obtain ⟨e, z⟩ := ih ho ho2 h
    exact ⟨by rw [e], (List.cons.inj z).2⟩
  | fst p ih =>
    intro q ho ho2 s t h
    cases q <;> simp only [Pl.tx, chars, List.append_assoc, List.cons_append, List.nil_append, List.cons.injEq, true_and, false_and, and_false, Nat.reduceEqDiff, reduceCtorEq] at h
    rename_i q
    have ho2 : q.Ok := ho2
    obtain ⟨e, z⟩ := ih ho ho2 h
    exact ⟨by rw [e], (List.cons.inj z).2⟩
theorem tx_eq {p q : Pl} (hp : p.Ok) (hq : q.Ok) (h : p.tx = q.tx) : p = q := (tx_inj hp hq (s := []) (t := []) (by rw [h])).1
end K96


set_option Elab.async false
set_option linter.all false
set_option maxRecDepth 100000
set_option maxHeartbeats 8000000
namespace K96
open PySem PySem.Spec L2 PSG PSS DL TL
open PyProof.Rows (IntsAre AllBare)

abbrev s__law_right : Stmt := topS 27
theorem sc__law_right : FnScope ["_law_pot_here", "_law_tables_here", "_law_plans", "_law_turn", "_law_one", "_law_shown", "_law_other"] ["_law_pot_here"] (defScope s__law_right) := ⟨rfl, rfl, rfl, by decide +kernel, rfl, by decide +kernel, by decide +kernel⟩
theorem litok : PyData.strOk (Str.ofString "heap") = true ∧ PyData.strOk (Str.ofString "index") = true ∧ PyData.strOk (Str.ofString "sort") = true ∧ PyData.strOk (Str.ofString "merge") = true ∧ PyData.strOk (Str.ofString "seek") = true ∧ PyData.strOk (Str.ofString "distinct") = true ∧ PyData.strOk (Str.ofString "groups") = true ∧
    PyData.strOk (Str.ofString "first") = true ∧ PyData.strOk (Str.ofString "up") = true ∧ PyData.strOk (Str.ofString "down") = true := by decide +kernel
theorem litlen : (Str.ofString "heap").length = 4 ∧ (Str.ofString "index").length = 5 ∧ (Str.ofString "sort").length = 4 ∧ (Str.ofString "merge").length = 5 ∧ (Str.ofString "seek").length = 4 ∧ (Str.ofString "distinct").length = 8 ∧ (Str.ofString "groups").length = 6 ∧ (Str.ofString "first").length = 5 ∧ (Str.ofString "up").length = 2 ∧ (Str.ofString "down").length = 4 := by decide
theorem prD_nice {e : Pr} (h : PR e) : (prD e).fine = true ∧ (prD e).dep = 1 ∧ (prD e).nb = true ∧ (prD e).w ≤ 600 := by
  obtain ⟨c, d, b⟩ := e
  have l : c.length ≤ 17 := Ref.len h.1
  have ok : PyData.strOk c = true := Ref.ok h.1
  have l' : d.length ≤ 17 := Ref.len h.2
  have ok' : PyData.strOk d = true := Ref.ok h.2
  cases b <;> simp [prD, dirS, D.fine, D.fines, D.dep, D.deps, D.nb, D.nbs, D.w, D.ws, ok, ok', litok, litlen] <;> omega
theorem Pl.nice : ∀ {p : Pl}, p.Ok → p.D.fine = true ∧ p.D.nb = true ∧ p.D.dep ≤ p.cnt + 2 ∧ p.D.w ≤ 4000 * p.cnt := by
  intro p
  induction p with
  | heap x =>
    intro h
    have h : Word x := h
    have o := h.ok
    have l := h.hi
    simp [Pl.D, Pl.cnt, D.fine, D.fines, D.dep, D.deps, D.nb, D.nbs, D.w, D.ws, o, litok, litlen]
    omega
  | index x i =>
    intro h
    have h : Word x ∧ Word i := h
    have o := h.1.ok
    have l := h.1.hi
    have o2 := h.2.ok
    have l2 := h.2.hi
    simp [Pl.D, Pl.cnt, D.fine, D.fines, D.dep, D.deps, D.nb, D.nbs, D.w, D.ws, o, o2, litok, litlen]
    omega
  | sort es p ih =>
    intro h
    have h : (es.length ≤ 8 ∧ ∀ e ∈ es, Ref e.1) ∧ p.Ok := h
    obtain ⟨i1, i2, i3, i4⟩ := ih h.2
    have f := fines_map (f := enD) (xs := es) fun e m => (enD_nice (h.1.2 e m)).1
    have n := nbs_map (f := enD) (xs := es) fun e m => (enD_nice (h.1.2 e m)).2.2.1
    have d := deps_map (f := enD) (n := 1) (xs := es) fun e m => Nat.le_of_eq (enD_nice (h.1.2 e m)).2.1
    have w := ws_map (f := enD) (n := 300) (xs := es) fun e m => (enD_nice (h.1.2 e m)).2.2.2
    have w2 := Nat.mul_le_mul_right 302 h.1.1
    simp [Pl.D, Pl.cnt, D.fine, D.fines, D.dep, D.deps, D.nb, D.nbs, D.w, D.ws, f, n, i1, i2, litok, litlen]
    omega
  | merge ps p q ih1 ih2 =>
    intro h
    have h : (ps ≠ [] ∧ ps.length ≤ 3 ∧ ∀ e ∈ ps, PR e) ∧ p.Ok ∧ q.Ok := h
    obtain ⟨i1, i2, i3, i4⟩ := ih1 h.2.1
    obtain ⟨j1, j2, j3, j4⟩ := ih2 h.2.2
    have f := fines_map (f := prD) (xs := ps) fun e m => (prD_nice (h.1.2.2 e m)).1
    have n := nbs_map (f := prD) (xs := ps) fun e m => (prD_nice (h.1.2.2 e m)).2.2.1
    have d := deps_map (f := prD) (n := 1) (xs := ps) fun e m => Nat.le_of_eq (prD_nice (h.1.2.2 e m)).2.1
    have w := ws_map (f := prD) (n := 600) (xs := ps) fun e m => (prD_nice (h.1.2.2 e m)).2.2.2
    have w2 := Nat.mul_le_mul_right 602 h.1.2.1
    simp [Pl.D, Pl.cnt, D.fine, D.fines, D.dep, D.deps, D.nb, D.nbs, D.w, D.ws, f, n, i1, i2, j1, j2, litok, litlen]
    omega
  | seek p x i b ih =>
    intro h
    have h : p.Ok ∧ Word x ∧ Word i ∧ 1 ≤ b ∧ b ≤ 3 := h
    obtain ⟨i1, i2, i3, i4⟩ := ih h.1
    have o := h.2.1.ok
    have l := h.2.1.hi
    have o2 := h.2.2.1.ok
    have l2 := h.2.2.1.hi
    have b3 : b.natAbs < 10000000000000000000000000000000000000000 := Nat.lt_of_lt_of_le (show b.natAbs < 4 by omega) (by decide)
    simp [Pl.D, Pl.cnt, D.fine, D.fines, D.dep, D.deps, D.nb, D.nbs, D.w, D.ws, o, o2, i1, i2, b3, litok, litlen]
    omega
  | dist p ih =>
    intro h
    obtain ⟨i1, i2, i3, i4⟩ := ih h
    simp [Pl.D, Pl.cnt, D.fine, D.fines, D.dep, D.deps, D.nb, D.nbs, D.w, D.ws, i1, i2, litok, litlen]
    omega
  | grps p ih =>
    intro h
    obtain ⟨i1, i2, i3, i4⟩ := ih h
    simp [Pl.D, Pl.cnt, D.fine, D.fines, D.dep, D.deps, D.nb, D.nbs, D.w, D.ws, i1, i2, litok, litlen]
    omega
  | fst p ih =>
    intro h
    obtain ⟨i1, i2, i3, i4⟩ := ih h
    simp [Pl.D, Pl.cnt, D.fine, D.fines, D.dep, D.deps, D.nb, D.nbs, D.w, D.ws, i1, i2, litok, litlen]
    omega
theorem pl_same {p q : Pl} (hp : p.Ok) (hq : q.Ok) (cp : p.cnt ≤ 13) (cq : q.cnt ≤ 13) : eqOk p.D q.D ∧ (eqD p.D q.D = true ↔ p.tx = q.tx) := by
  obtain ⟨i1, i2, i3, i4⟩ := Pl.nice hp
  obtain ⟨j1, j2, j3, j4⟩ := Pl.nice hq
  refine ⟨eqOk_of i1 (by omega) j1 (by omega), ?_⟩
  rw [eqD_eq i2 j2]
  exact ⟨fun e => by rw [pl_inj e], fun e => by rw [tx_eq hp hq e]⟩
theorem pl_show {p : Pl} (hp : p.Ok) (cp : p.cnt ≤ 13) : p.D.Show := by
  obtain ⟨i1, i2, i3, i4⟩ := Pl.nice hp
  exact show_of i1 (by omega) (by omega)
theorem seq_open {a b : TSd} {N : Dn} {δ : DSt} (h : ∀ b', b' = b → tdSeq a b' N δ) : tdSeq a b N δ := h b rfl
section
variable {P : Program} {w : World} {K : PySem.W.Frag} {mg : Str → Option Value} {base : Heap}
def fsRight : FS where
  pre := fun ds => ds = [.pot]
  post := fun _ d => d = .bl true
theorem fsRight_fr : fsRight.fr = false := rfl
theorem ok__law_right {f : Addr} {fd : FuncData} {f0 : Addr} {d0 : FuncData} {f1 : Addr} {d1 : FuncData} {f2 : Addr} {d2 : FuncData} {f3 : Addr} {d3 : FuncData} (F : Fun K "_law_right" "_law_right" s__law_right f fd) (T : Blt K mg)
    (F__law_tables : Fun K "_law_tables" "_law_tables" s__law_tables f0 d0) (b__law_tables : Binds K d0 ["_law_pot_here"] []) (g__law_tables : mg "_law_tables" = some (.ref f0)) (G__law_tables : FnG P w K mg base CX0 4 f0 d0 ["_law_pot_here"] (spD K 1 fsTables))
    (F__law_plan : Fun K "_law_plan" "_law_plan" s__law_plan f1 d1) (b__law_plan : Binds K d1 ["_law_pot_here", "_law_tables_here"] []) (g__law_plan : mg "_law_plan" = some (.ref f1)) (G__law_plan : FnG P w K mg base CX0 15 f1 d1 ["_law_pot_here", "_law_tables_here"] (spD K 2 fsPlanL))
    (F_plan_text : Fun K "plan_text" "plan_text" s_plan_text f2 d2) (b_plan_text : Binds K d2 ["plan"] []) (g_plan_text : mg "plan_text" = some (.ref f2)) (G_plan_text : FnG P w K mg base CX0 18 f2 d2 ["plan"] (spD K 1 (fsPlan 13)))
    (F__law_text : Fun K "_law_text" "_law_text" s__law_text f3 d3) (b__law_text : Binds K d3 ["_law_tree"] []) (g__law_text : mg "_law_text" = some (.ref f3)) (G__law_text : FnG P w K mg base CX0 16 f3 d3 ["_law_tree"] (spD K 1 (fsLT 13))) (kb_plan_text : ∀ (s : Shared) (ws : List Value), K.In s.heap → ws.length = 1 → BindsTo s d2 ⟨[], (["plan"] : List Str).zip ws⟩ ((["plan"] : List Str).zip ws)) : FnG P w K mg base CX0 19 f fd ["_law_pot_here"] (spD K 1 fsRight) := by
  have sc := sc__law_right
  refine okD (k := 18) F sc fun X hX hr gd => ?_
  obtain ⟨cdv, A, outer, s, H, E, rfl⟩ := hX
  refine ⟨_, (dss_cut (ds_set (i := 1) sc.nd rfl (.inr rfl) (de_call1 G__law_tables (hr.mono (by omega)) gd (by rfl) g__law_tables F__law_tables.kp b__law_tables (da_cons (de_v 0) da_nil)))
      (dss_cut (ds_setLc (i := 2) (own := [("_law_turn", 3)]) (by rfl) sc.nd rfl rfl (sw_true rfl rfl rfl (by decide +kernel)) (di_range1 (by rfl) T.n_range (da_cons de_int da_nil)) (blkOk_by (own := [("_law_turn", 3)]) (N := ["_law_pot_here", "_law_tables_here", "_law_plans", "_law_turn", "_law_one", "_law_shown", "_law_other"]) (sc := defScope s__law_right) (by decide +kernel)) (fun _ _ _ _ _ => (dg_name (i := 3) sc.nd rfl (.inl rfl))) (fun _ _ _ _ _ => (de_call1 G__law_plan (hr.mono (by omega)) gd (by rfl) g__law_plan F__law_plan.kp b__law_plan (da_cons (de_v 0) (da_cons (de_v 1) da_nil)))))
      (dss_cut (ds_for PassesOwn.never (by rfl) (di_v 2) (dg_name (i := 4) sc.nd rfl (.inl rfl)) (dss_cons (ds_set (i := 5) sc.nd rfl (.inl rfl) (de_callB (call_reA hr gd) cd_repr (by rfl) T.n_repr (by decide +kernel) (dps_cons (dp_v 4) dps_nil)))
      (dss_cons (ds_if (DW.dt (dw_or (dt_cmp (o_ne hr) r2_Ne (DE.dp (de_call1 G_plan_text (hr.mono (by omega)) gd (by rfl) g_plan_text F_plan_text.kp b_plan_text (da_cons (de_v 4) da_nil))) (DE.dp (de_call1 G__law_text (hr.mono (by omega)) gd (by rfl) g__law_text F__law_text.kp b__law_text (da_cons (de_v 4) da_nil))) (by first | exact nomark _ | rfl)) (dw_or (dt_cmp (o_ne hr) r2_Ne (DE.dp (de_callW (ks := ["plan"]) G_plan_text (hr.mono (by omega)) gd (by rfl) g_plan_text F_plan_text.kp (g := fun ws => ws) (gV := fun vs => vs) (gD := fun ds => ds) kb_plan_text (fun r => r) (fun r => r) (dk_cons (de_v 4) dk_nil))) (DE.dp (de_call1 G__law_text (hr.mono (by omega)) gd (by rfl) g__law_text F__law_text.kp b__law_text (da_cons (de_v 4) da_nil))) (by first | exact nomark _ | rfl)) (dw_or1 (dt_cmp (o_ne hr) r2_Ne (DE.dp (de_callB (call_reA hr gd) cd_repr (by rfl) T.n_repr (by decide +kernel) (dps_cons (dp_v 4) dps_nil))) (dp_v 5) (by first | exact nomark _ | rfl)))))) (dss_one (ds_ret de_bl)) dss_nil)
      (dss_one (ds_for PassesOwn.never (by rfl) (di_v 2) (dg_name (i := 6) sc.nd rfl (.inl rfl)) (dss_one (ds_if (dt_cmp (o_ne hr) r2_Ne (DE.dp (de_cmp (o_eq hr) r2_Eq (DE.dp (de_call1 G_plan_text (hr.mono (by omega)) gd (by rfl) g_plan_text F_plan_text.kp b_plan_text (da_cons (de_v 4) da_nil))) (DE.dp (de_call1 G_plan_text (hr.mono (by omega)) gd (by rfl) g_plan_text F_plan_text.kp b_plan_text (da_cons (de_v 6) da_nil))) (by first | exact nomark _ | rfl))) (DE.dp (de_cmp (o_eq hr) r2_Eq (dp_v 4) (dp_v 6) (by first | exact nomark _ | rfl))) (by first | exact nomark _ | rfl)) (dss_one (ds_ret de_bl)) dss_nil)))))))
      (dss_one (ds_ret de_bl))))), fun ds l pre => ?_⟩
  have pre : ds = [.pot] := pre
  subst pre
  have sl := sizeLine_eq
  refine ⟨fun δ => ∃ ts : List Tb, (ts.length = 3 ∧ ∀ t ∈ ts, t.Ok) ∧ δ = [some (.fz .pot), some (.fz (.lst (ts.map Tb.D))), none, none, none, none, none], ?_, ?_⟩
  · simp only [startD, tdSeq, tdNext, tdSet, tdSetO, tdDrop, tdRet, tdRetO, tdRetN, tdIfS, tdAsg, tdPar, tdBreak, tdCont, tdFor, tdV, tdC, tdOp, tdB, tdT, tdNotT, tdAndT, tdOrT, tdAnd, tdOr, tdNot, tdIf, tdNeg, tdTup, tdLst, tdNil, tdCons, tdStar, tdMut, tdM1, tdSl, tdoN, tdoS, tdFmt, tdJs, tdgN, tdgT, tdgNil, tdgCons, pdE, pdV, pdNil, pdCons, getL, peek, frz, onB, onL, onT, owL, unowned, wipeD, tiL, tiT, tiS, tiV, tiR1, tiR2, tiE, tiZ, ttY, tdLc, pAdd, pMul, pII, pII0, pSS, pEq2, pIn2, pOrd, pIx2, pSl2, pSlL, pCat, pIsN, pLen, pI1, pI2, pInt, pStrI, pList, pTuple, pAll, pAny, pRepr, pJoin, pmAppend, pmExtend, pmPopAt, List.map_cons, List.map_nil, List.cons_append, List.nil_append, List.append_nil, List.length_cons, List.length_nil, List.getElem?_cons_zero, List.getElem?_cons_succ, List.set_cons_zero, List.set_cons_succ, List.replicate_succ, List.replicate_zero, Function.comp, Nat.reduceAdd, Nat.reduceSub, Nat.reduceLT, true_and, and_true, if_true, if_false, Bool.false_eq_true, ite_true, ite_false, Bool.not_true, Bool.not_false, reduceCtorEq, eqOk_str, eqOk_int, eqOk_bl, eqD_str, eqD_int, eqD_bl, decide_eq_true_eq, false_implies, true_implies, Option.some.injEq, exists_eq_left, exists_eq_left', exists_eq', or_false, false_or, eq_self, at0, at1, at2, at3, at4, D.str.injEq, D.int.injEq, D.bl.injEq, D.tup.injEq, D.lst.injEq, List.cons.injEq, Sl.fz.injEq, Sl.ow.injEq]
    refine ⟨rfl, fun d ⟨ts, e, l, g⟩ => ?_⟩
    exact ⟨ts, ⟨l, g⟩, e⟩
  rintro _ ⟨ts, ⟨l3, ok⟩, rfl⟩
  refine ⟨fun δ => ∃ ps : List Pl, (∀ p ∈ ps, p.Ok ∧ p.cnt ≤ 13) ∧ δ = [some (.fz .pot), some (.fz (.lst (ts.map Tb.D))), some (.fz (.lst (ps.map Pl.D))), none, none, none, none], ?_, ?_⟩
  · simp only [startD, tdSeq, tdNext, tdSet, tdSetO, tdDrop, tdRet, tdRetO, tdRetN, tdIfS, tdAsg, tdPar, tdBreak, tdCont, tdFor, tdV, tdC, tdOp, tdB, tdT, tdNotT, tdAndT, tdOrT, tdAnd, tdOr, tdNot, tdIf, tdNeg, tdTup, tdLst, tdNil, tdCons, tdStar, tdMut, tdM1, tdSl, tdoN, tdoS, tdFmt, tdJs, tdgN, tdgT, tdgNil, tdgCons, pdE, pdV, pdNil, pdCons, getL, peek, frz, onB, onL, onT, owL, unowned, wipeD, tiL, tiT, tiS, tiV, tiR1, tiR2, tiE, tiZ, ttY, tdLc, pAdd, pMul, pII, pII0, pSS, pEq2, pIn2, pOrd, pIx2, pSl2, pSlL, pCat, pIsN, pLen, pI1, pI2, pInt, pStrI, pList, pTuple, pAll, pAny, pRepr, pJoin, pmAppend, pmExtend, pmPopAt, List.map_cons, List.map_nil, List.cons_append, List.nil_append, List.append_nil, List.length_cons, List.length_nil, List.getElem?_cons_zero, List.getElem?_cons_succ, List.set_cons_zero, List.set_cons_succ, List.replicate_succ, List.replicate_zero, Function.comp, Nat.reduceAdd, Nat.reduceSub, Nat.reduceLT, true_and, and_true, if_true, if_false, Bool.false_eq_true, ite_true, ite_false, Bool.not_true, Bool.not_false, reduceCtorEq, eqOk_str, eqOk_int, eqOk_bl, eqD_str, eqD_int, eqD_bl, decide_eq_true_eq, false_implies, true_implies, Option.some.injEq, exists_eq_left, exists_eq_left', exists_eq', or_false, false_or, eq_self, at0, at1, at2, at3, at4, D.str.injEq, D.int.injEq, D.bl.injEq, D.tup.injEq, D.lst.injEq, List.cons.injEq, Sl.fz.injEq, Sl.ow.injEq]
    refine ⟨by omega, fun i acc => ∃ ps : List Pl, (∀ p ∈ ps, p.Ok ∧ p.cnt ≤ 13) ∧ acc = ps.map Pl.D ∧ ps.length = i, ⟨[], (fun p m => nomatch m), rfl, rfl⟩, fun i d acc e ⟨ps, g, e2, l⟩ => ⟨⟨ts, rfl, l3, ok⟩, fun d ⟨p, e3, po, pc⟩ => ?_⟩, fun acc ⟨ps, g, e2, l⟩ => ⟨ps, g, e2⟩⟩
    have il := (List.getElem?_eq_some_iff.mp e).1
    unfold rg at il
    rw [List.length_map, List.length_range] at il
    have il : i < 5 := il
    rw [e2, e3]
    refine ⟨by rw [List.length_map]; omega, ps ++ [p], fun q m => ?_, by rw [List.map_append]; rfl, by rw [List.length_append, l]; rfl⟩
    rcases List.mem_append.mp m with m | m
    · exact g q m
    · rw [List.mem_singleton.mp m]
      exact ⟨po, pc⟩
  rintro _ ⟨ps, gp, rfl⟩
  refine ⟨fun _ => True, ?_, ?_⟩
  · refine for_open fun gg tb hg hb => ?_
    simp only [startD, tdSeq, tdNext, tdSet, tdSetO, tdDrop, tdRet, tdRetO, tdRetN, tdIfS, tdAsg, tdPar, tdBreak, tdCont, tdFor, tdV, tdC, tdOp, tdB, tdT, tdNotT, tdAndT, tdOrT, tdAnd, tdOr, tdNot, tdIf, tdNeg, tdTup, tdLst, tdNil, tdCons, tdStar, tdMut, tdM1, tdSl, tdoN, tdoS, tdFmt, tdJs, tdgN, tdgT, tdgNil, tdgCons, pdE, pdV, pdNil, pdCons, getL, peek, frz, onB, onL, onT, owL, unowned, wipeD, tiL, tiT, tiS, tiV, tiR1, tiR2, tiE, tiZ, ttY, tdLc, pAdd, pMul, pII, pII0, pSS, pEq2, pIn2, pOrd, pIx2, pSl2, pSlL, pCat, pIsN, pLen, pI1, pI2, pInt, pStrI, pList, pTuple, pAll, pAny, pRepr, pJoin, pmAppend, pmExtend, pmPopAt, List.map_cons, List.map_nil, List.cons_append, List.nil_append, List.append_nil, List.length_cons, List.length_nil, List.getElem?_cons_zero, List.getElem?_cons_succ, List.set_cons_zero, List.set_cons_succ, List.replicate_succ, List.replicate_zero, Function.comp, Nat.reduceAdd, Nat.reduceSub, Nat.reduceLT, true_and, and_true, if_true, if_false, Bool.false_eq_true, ite_true, ite_false, Bool.not_true, Bool.not_false, reduceCtorEq, eqOk_str, eqOk_int, eqOk_bl, eqD_str, eqD_int, eqD_bl, decide_eq_true_eq, false_implies, true_implies, Option.some.injEq, exists_eq_left, exists_eq_left', exists_eq', or_false, false_or, eq_self, at0, at1, at2, at3, at4, D.str.injEq, D.int.injEq, D.bl.injEq, D.tup.injEq, D.lst.injEq, List.cons.injEq, Sl.fz.injEq, Sl.ow.injEq]
    refine ⟨fun i δ => ∃ a b c, δ = [some (.fz .pot), some (.fz (.lst (ts.map Tb.D))), some (.fz (.lst (ps.map Pl.D))), none, a, b, c], ⟨none, none, none, rfl⟩, fun i d δ e ⟨a, b, c, eδ⟩ => ?_, fun _ _ => trivial⟩
    obtain ⟨p, hp, rfl⟩ := get_map e
    obtain ⟨po, pc⟩ := gp p (List.mem_of_getElem? hp)
    have sh := pl_show po pc
    subst hg hb eδ
    refine seq_open fun b1 h1 => ?_
    simp only [startD, tdSeq, tdNext, tdSet, tdSetO, tdDrop, tdRet, tdRetO, tdRetN, tdIfS, tdAsg, tdPar, tdBreak, tdCont, tdFor, tdV, tdC, tdOp, tdB, tdT, tdNotT, tdAndT, tdOrT, tdAnd, tdOr, tdNot, tdIf, tdNeg, tdTup, tdLst, tdNil, tdCons, tdStar, tdMut, tdM1, tdSl, tdoN, tdoS, tdFmt, tdJs, tdgN, tdgT, tdgNil, tdgCons, pdE, pdV, pdNil, pdCons, getL, peek, frz, onB, onL, onT, owL, unowned, wipeD, tiL, tiT, tiS, tiV, tiR1, tiR2, tiE, tiZ, ttY, tdLc, pAdd, pMul, pII, pII0, pSS, pEq2, pIn2, pOrd, pIx2, pSl2, pSlL, pCat, pIsN, pLen, pI1, pI2, pInt, pStrI, pList, pTuple, pAll, pAny, pRepr, pJoin, pmAppend, pmExtend, pmPopAt, List.map_cons, List.map_nil, List.cons_append, List.nil_append, List.append_nil, List.length_cons, List.length_nil, List.getElem?_cons_zero, List.getElem?_cons_succ, List.set_cons_zero, List.set_cons_succ, List.replicate_succ, List.replicate_zero, Function.comp, Nat.reduceAdd, Nat.reduceSub, Nat.reduceLT, true_and, and_true, if_true, if_false, Bool.false_eq_true, ite_true, ite_false, Bool.not_true, Bool.not_false, reduceCtorEq, eqOk_str, eqOk_int, eqOk_bl, eqD_str, eqD_int, eqD_bl, decide_eq_true_eq, false_implies, true_implies, Option.some.injEq, exists_eq_left, exists_eq_left', exists_eq', or_false, false_or, eq_self, at0, at1, at2, at3, at4, D.str.injEq, D.int.injEq, D.bl.injEq, D.tup.injEq, D.lst.injEq, List.cons.injEq, Sl.fz.injEq, Sl.ow.injEq]
    refine ⟨sh, ?_⟩
    subst h1
    refine seq_open fun b2 h2 => ?_
    simp only [startD, tdSeq, tdNext, tdSet, tdSetO, tdDrop, tdRet, tdRetO, tdRetN, tdIfS, tdAsg, tdPar, tdBreak, tdCont, tdFor, tdV, tdC, tdOp, tdB, tdT, tdNotT, tdAndT, tdOrT, tdAnd, tdOr, tdNot, tdIf, tdNeg, tdTup, tdLst, tdNil, tdCons, tdStar, tdMut, tdM1, tdSl, tdoN, tdoS, tdFmt, tdJs, tdgN, tdgT, tdgNil, tdgCons, pdE, pdV, pdNil, pdCons, getL, peek, frz, onB, onL, onT, owL, unowned, wipeD, tiL, tiT, tiS, tiV, tiR1, tiR2, tiE, tiZ, ttY, tdLc, pAdd, pMul, pII, pII0, pSS, pEq2, pIn2, pOrd, pIx2, pSl2, pSlL, pCat, pIsN, pLen, pI1, pI2, pInt, pStrI, pList, pTuple, pAll, pAny, pRepr, pJoin, pmAppend, pmExtend, pmPopAt, List.map_cons, List.map_nil, List.cons_append, List.nil_append, List.append_nil, List.length_cons, List.length_nil, List.getElem?_cons_zero, List.getElem?_cons_succ, List.set_cons_zero, List.set_cons_succ, List.replicate_succ, List.replicate_zero, Function.comp, Nat.reduceAdd, Nat.reduceSub, Nat.reduceLT, true_and, and_true, if_true, if_false, Bool.false_eq_true, ite_true, ite_false, Bool.not_true, Bool.not_false, reduceCtorEq, eqOk_str, eqOk_int, eqOk_bl, eqD_str, eqD_int, eqD_bl, decide_eq_true_eq, false_implies, true_implies, Option.some.injEq, exists_eq_left, exists_eq_left', exists_eq', or_false, false_or, eq_self, at0, at1, at2, at3, at4, D.str.injEq, D.int.injEq, D.bl.injEq, D.tup.injEq, D.lst.injEq, List.cons.injEq, Sl.fz.injEq, Sl.ow.injEq, fsRight_fr]
    refine ⟨⟨p, rfl, po, pc, by decide⟩, fun d hd => ?_⟩
    obtain ⟨s1, rfl, e1⟩ := plan_post hd
    refine ⟨⟨p, rfl, po, pc, by decide⟩, fun d hd => ?_⟩
    obtain ⟨s2, rfl, e2⟩ := lt_post hd
    have e12 : s1 = s2 := str_eq (e1.trans e2.symm)
    simp only [startD, tdSeq, tdNext, tdSet, tdSetO, tdDrop, tdRet, tdRetO, tdRetN, tdIfS, tdAsg, tdPar, tdBreak, tdCont, tdFor, tdV, tdC, tdOp, tdB, tdT, tdNotT, tdAndT, tdOrT, tdAnd, tdOr, tdNot, tdIf, tdNeg, tdTup, tdLst, tdNil, tdCons, tdStar, tdMut, tdM1, tdSl, tdoN, tdoS, tdFmt, tdJs, tdgN, tdgT, tdgNil, tdgCons, pdE, pdV, pdNil, pdCons, getL, peek, frz, onB, onL, onT, owL, unowned, wipeD, tiL, tiT, tiS, tiV, tiR1, tiR2, tiE, tiZ, ttY, tdLc, pAdd, pMul, pII, pII0, pSS, pEq2, pIn2, pOrd, pIx2, pSl2, pSlL, pCat, pIsN, pLen, pI1, pI2, pInt, pStrI, pList, pTuple, pAll, pAny, pRepr, pJoin, pmAppend, pmExtend, pmPopAt, List.map_cons, List.map_nil, List.cons_append, List.nil_append, List.append_nil, List.length_cons, List.length_nil, List.getElem?_cons_zero, List.getElem?_cons_succ, List.set_cons_zero, List.set_cons_succ, List.replicate_succ, List.replicate_zero, Function.comp, Nat.reduceAdd, Nat.reduceSub, Nat.reduceLT, true_and, and_true, if_true, if_false, Bool.false_eq_true, ite_true, ite_false, Bool.not_true, Bool.not_false, reduceCtorEq, eqOk_str, eqOk_int, eqOk_bl, eqD_str, eqD_int, eqD_bl, decide_eq_true_eq, false_implies, true_implies, Option.some.injEq, exists_eq_left, exists_eq_left', exists_eq', or_false, false_or, eq_self, at0, at1, at2, at3, at4, D.str.injEq, D.int.injEq, D.bl.injEq, D.tup.injEq, D.lst.injEq, List.cons.injEq, Sl.fz.injEq, Sl.ow.injEq, e12, decide_true]
    refine ⟨⟨p, rfl, po, pc, by decide⟩, fun d hd => ?_⟩
    obtain ⟨s3, rfl, e3⟩ := plan_post hd
    refine ⟨⟨p, rfl, po, pc, by decide⟩, fun d hd => ?_⟩
    obtain ⟨s4, rfl, e4⟩ := lt_post hd
    have e34 : s3 = s4 := str_eq (e3.trans e4.symm)
    simp only [startD, tdSeq, tdNext, tdSet, tdSetO, tdDrop, tdRet, tdRetO, tdRetN, tdIfS, tdAsg, tdPar, tdBreak, tdCont, tdFor, tdV, tdC, tdOp, tdB, tdT, tdNotT, tdAndT, tdOrT, tdAnd, tdOr, tdNot, tdIf, tdNeg, tdTup, tdLst, tdNil, tdCons, tdStar, tdMut, tdM1, tdSl, tdoN, tdoS, tdFmt, tdJs, tdgN, tdgT, tdgNil, tdgCons, pdE, pdV, pdNil, pdCons, getL, peek, frz, onB, onL, onT, owL, unowned, wipeD, tiL, tiT, tiS, tiV, tiR1, tiR2, tiE, tiZ, ttY, tdLc, pAdd, pMul, pII, pII0, pSS, pEq2, pIn2, pOrd, pIx2, pSl2, pSlL, pCat, pIsN, pLen, pI1, pI2, pInt, pStrI, pList, pTuple, pAll, pAny, pRepr, pJoin, pmAppend, pmExtend, pmPopAt, List.map_cons, List.map_nil, List.cons_append, List.nil_append, List.append_nil, List.length_cons, List.length_nil, List.getElem?_cons_zero, List.getElem?_cons_succ, List.set_cons_zero, List.set_cons_succ, List.replicate_succ, List.replicate_zero, Function.comp, Nat.reduceAdd, Nat.reduceSub, Nat.reduceLT, true_and, and_true, if_true, if_false, Bool.false_eq_true, ite_true, ite_false, Bool.not_true, Bool.not_false, reduceCtorEq, eqOk_str, eqOk_int, eqOk_bl, eqD_str, eqD_int, eqD_bl, decide_eq_true_eq, false_implies, true_implies, Option.some.injEq, exists_eq_left, exists_eq_left', exists_eq', or_false, false_or, eq_self, at0, at1, at2, at3, at4, D.str.injEq, D.int.injEq, D.bl.injEq, D.tup.injEq, D.lst.injEq, List.cons.injEq, Sl.fz.injEq, Sl.ow.injEq, e34, decide_true]
    refine ⟨sh, ?_⟩
    subst h2
    refine ⟨fun j δ => ∃ c, δ = [some (.fz .pot), some (.fz (.lst (ts.map Tb.D))), some (.fz (.lst (ps.map Pl.D))), none, some (.fz p.D), some (.fz (.str p.D.py.shown)), c], ⟨_, rfl⟩, fun j d δ e ⟨c, eδ⟩ => ?_, fun δ ⟨c, eδ⟩ => ⟨_, _, _, eδ⟩⟩
    obtain ⟨q, hq, rfl⟩ := get_map e
    obtain ⟨qo, qc⟩ := gp q (List.mem_of_getElem? hq)
    obtain ⟨so, se⟩ := pl_same po qo pc qc
    subst eδ
    simp only [startD, tdSeq, tdNext, tdSet, tdSetO, tdDrop, tdRet, tdRetO, tdRetN, tdIfS, tdAsg, tdPar, tdBreak, tdCont, tdFor, tdV, tdC, tdOp, tdB, tdT, tdNotT, tdAndT, tdOrT, tdAnd, tdOr, tdNot, tdIf, tdNeg, tdTup, tdLst, tdNil, tdCons, tdStar, tdMut, tdM1, tdSl, tdoN, tdoS, tdFmt, tdJs, tdgN, tdgT, tdgNil, tdgCons, pdE, pdV, pdNil, pdCons, getL, peek, frz, onB, onL, onT, owL, unowned, wipeD, tiL, tiT, tiS, tiV, tiR1, tiR2, tiE, tiZ, ttY, tdLc, pAdd, pMul, pII, pII0, pSS, pEq2, pIn2, pOrd, pIx2, pSl2, pSlL, pCat, pIsN, pLen, pI1, pI2, pInt, pStrI, pList, pTuple, pAll, pAny, pRepr, pJoin, pmAppend, pmExtend, pmPopAt, List.map_cons, List.map_nil, List.cons_append, List.nil_append, List.append_nil, List.length_cons, List.length_nil, List.getElem?_cons_zero, List.getElem?_cons_succ, List.set_cons_zero, List.set_cons_succ, List.replicate_succ, List.replicate_zero, Function.comp, Nat.reduceAdd, Nat.reduceSub, Nat.reduceLT, true_and, and_true, if_true, if_false, Bool.false_eq_true, ite_true, ite_false, Bool.not_true, Bool.not_false, reduceCtorEq, eqOk_str, eqOk_int, eqOk_bl, eqD_str, eqD_int, eqD_bl, decide_eq_true_eq, false_implies, true_implies, Option.some.injEq, exists_eq_left, exists_eq_left', exists_eq', or_false, false_or, eq_self, at0, at1, at2, at3, at4, D.str.injEq, D.int.injEq, D.bl.injEq, D.tup.injEq, D.lst.injEq, List.cons.injEq, Sl.fz.injEq, Sl.ow.injEq]
    refine ⟨⟨p, rfl, po, pc, by decide⟩, fun d hd => ?_⟩
    obtain ⟨s5, rfl, e5⟩ := plan_post hd
    refine ⟨⟨q, rfl, qo, qc, by decide⟩, fun d hd => ?_⟩
    obtain ⟨s6, rfl, e6⟩ := plan_post hd
    simp only [startD, tdSeq, tdNext, tdSet, tdSetO, tdDrop, tdRet, tdRetO, tdRetN, tdIfS, tdAsg, tdPar, tdBreak, tdCont, tdFor, tdV, tdC, tdOp, tdB, tdT, tdNotT, tdAndT, tdOrT, tdAnd, tdOr, tdNot, tdIf, tdNeg, tdTup, tdLst, tdNil, tdCons, tdStar, tdMut, tdM1, tdSl, tdoN, tdoS, tdFmt, tdJs, tdgN, tdgT, tdgNil, tdgCons, pdE, pdV, pdNil, pdCons, getL, peek, frz, onB, onL, onT, owL, unowned, wipeD, tiL, tiT, tiS, tiV, tiR1, tiR2, tiE, tiZ, ttY, tdLc, pAdd, pMul, pII, pII0, pSS, pEq2, pIn2, pOrd, pIx2, pSl2, pSlL, pCat, pIsN, pLen, pI1, pI2, pInt, pStrI, pList, pTuple, pAll, pAny, pRepr, pJoin, pmAppend, pmExtend, pmPopAt, List.map_cons, List.map_nil, List.cons_append, List.nil_append, List.append_nil, List.length_cons, List.length_nil, List.getElem?_cons_zero, List.getElem?_cons_succ, List.set_cons_zero, List.set_cons_succ, List.replicate_succ, List.replicate_zero, Function.comp, Nat.reduceAdd, Nat.reduceSub, Nat.reduceLT, true_and, and_true, if_true, if_false, Bool.false_eq_true, ite_true, ite_false, Bool.not_true, Bool.not_false, reduceCtorEq, eqOk_str, eqOk_int, eqOk_bl, eqD_str, eqD_int, eqD_bl, decide_eq_true_eq, false_implies, true_implies, Option.some.injEq, exists_eq_left, exists_eq_left', exists_eq', or_false, false_or, eq_self, at0, at1, at2, at3, at4, D.str.injEq, D.int.injEq, D.bl.injEq, D.tup.injEq, D.lst.injEq, List.cons.injEq, Sl.fz.injEq, Sl.ow.injEq]
    refine ⟨so, ?_⟩
    have same : decide (s5 = s6) = eqD p.D q.D := by
      rw [Bool.eq_iff_iff, decide_eq_true_eq, se, ← e5, ← e6]
      exact ⟨fun h => by rw [h], str_eq⟩
    rw [same, if_neg (by rw [decide_eq_true rfl]; decide)]
    trivial
  intro _ _
  simp only [startD, tdSeq, tdNext, tdSet, tdSetO, tdDrop, tdRet, tdRetO, tdRetN, tdIfS, tdAsg, tdPar, tdBreak, tdCont, tdFor, tdV, tdC, tdOp, tdB, tdT, tdNotT, tdAndT, tdOrT, tdAnd, tdOr, tdNot, tdIf, tdNeg, tdTup, tdLst, tdNil, tdCons, tdStar, tdMut, tdM1, tdSl, tdoN, tdoS, tdFmt, tdJs, tdgN, tdgT, tdgNil, tdgCons, pdE, pdV, pdNil, pdCons, getL, peek, frz, onB, onL, onT, owL, unowned, wipeD, tiL, tiT, tiS, tiV, tiR1, tiR2, tiE, tiZ, ttY, tdLc, pAdd, pMul, pII, pII0, pSS, pEq2, pIn2, pOrd, pIx2, pSl2, pSlL, pCat, pIsN, pLen, pI1, pI2, pInt, pStrI, pList, pTuple, pAll, pAny, pRepr, pJoin, pmAppend, pmExtend, pmPopAt, List.map_cons, List.map_nil, List.cons_append, List.nil_append, List.append_nil, List.length_cons, List.length_nil, List.getElem?_cons_zero, List.getElem?_cons_succ, List.set_cons_zero, List.set_cons_succ, List.replicate_succ, List.replicate_zero, Function.comp, Nat.reduceAdd, Nat.reduceSub, Nat.reduceLT, true_and, and_true, if_true, if_false, Bool.false_eq_true, ite_true, ite_false, Bool.not_true, Bool.not_false, reduceCtorEq, eqOk_str, eqOk_int, eqOk_bl, eqD_str, eqD_int, eqD_bl, decide_eq_true_eq, false_implies, true_implies, Option.some.injEq, exists_eq_left, exists_eq_left', exists_eq', or_false, false_or, eq_self, at0, at1, at2, at3, at4, D.str.injEq, D.int.injEq, D.bl.injEq, D.tup.injEq, D.lst.injEq, List.cons.injEq, Sl.fz.injEq, Sl.ow.injEq, fsRight_fr]
  rfl
end
end K96


set_option Elab.async false
set_option linter.all false
set_option maxRecDepth 100000
set_option maxHeartbeats 8000000
namespace K96
open PySem PySem.Spec L2 PSG PSS DL TL
open PyProof.Rows (IntsAre AllBare)

abbrev s_law : Stmt := topS 28
theorem sc_law : FnScope ["_law_script", "_law_k"] ["_law_script"] (defScope s_law) := ⟨rfl, rfl, rfl, by decide +kernel, rfl, by decide +kernel, by decide +kernel⟩
section
variable {P : Program} {w : World} {K : PySem.W.Frag} {mg : Str → Option Value} {base : Heap}
def spLaw (K : PySem.W.Frag) : Sp := fun vs H Q _ => ∃ (a : Addr) (ns : List Int), vs = [.ref a] ∧ SqL K H a (ns.map V.int) ∧ ns.length ≤ 63 ∧ ∀ H', Q (.bl true) H'
theorem ok_law {f fP fR : Addr} {fd dP dR : FuncData} (F : Fun K "law" "law" s_law f fd) (T : Blt K mg)
    (F__law_pot : Fun K "_law_pot" "_law_pot" s__law_pot fP dP) (b__law_pot : Binds K dP ["_law_script", "_law_k"] []) (g__law_pot : mg "_law_pot" = some (.ref fP))
    (F__law_right : Fun K "_law_right" "_law_right" s__law_right fR dR) (b__law_right : Binds K dR ["_law_pot_here"] []) (g__law_right : mg "_law_right" = some (.ref fR)) (G__law_right : FnG P w K mg base CX0 19 fR dR ["_law_pot_here"] (spD K 1 fsRight)) :
    FnG P w K mg base CX0 (19 + 1) f fd ["_law_script"] (spLaw K) := by
  have sc := sc_law
  have G__law_pot : FnOk P w K mg base CX0 1 fP dP ["_law_script", "_law_k"] (spPot K) := ok_pot F__law_pot T
  refine okG F sc (fun vs H Q E h => ?_) (fun cdv B up s H vs Q E hr gd h => ?_)
  · obtain ⟨a, ns, rfl, _⟩ := h
    rfl
  · obtain ⟨a, ns, rfl, hS, hlen, k⟩ := h
    refine ⟨_, (pss_one (ps_ret (pe_callB (cr_all rfl) (by rfl) T.n_all (by decide +kernel) (pa_cons (pe_lc (own := [("_law_k", 1)]) (g := gName 1) (tt := tYes) (by rfl) sc.nd (pi_range1 (by rfl) T.n_range (pa_cons (pe_callB (call_max2 rfl) (by rfl) T.n_max (by decide +kernel) (pa_cons pe_int (pa_cons (pe_callB (call_min2 rfl) (by rfl) T.n_min (by decide +kernel) (pa_cons (pe_callB call_len_seq (by rfl) T.n_len PySem.boot_len (pa_cons (pv 0) pa_nil)) (pa_cons pe_int pa_nil))) pa_nil))) pa_nil)) (blkOk_by (own := [("_law_k", 1)]) (N := ["_law_script", "_law_k"]) (sc := defScope s_law) (by decide +kernel)) (fun _ _ _ _ _ => pg_name (i := 1) sc.nd rfl (Or.inl rfl)) (fun _ _ _ _ _ => pts_nil) (fun _ _ _ _ _ => (pe_callG G__law_right (hr.mono (by decide)) gd (by rfl) g__law_right F__law_right.kp b__law_right .nil pass0 (pa_cons (pe_call G__law_pot (hr.mono (by decide)) (by rfl) g__law_pot F__law_pot.kp b__law_pot .nil pass0 (pa_cons (pv 0) (pa_cons (pv 1) pa_nil))) pa_nil)))) pa_nil)))), ?_⟩
    refine ⟨_, rfl, a, _, rfl, .inl hS, _, _, rfl, _, _, rfl, _, rfl, ?_, ?_, fun D hD => w_range (lo := 0) (fun i G => Same H G ∧ G D = some (.lst ((List.replicate i true).map V.bl))) ⟨same_new hD, upd_same⟩ ?_ ?_⟩
    · split <;> split <;> omega
    · split <;> split <;> omega
    · rintro i G hi ⟨s0, aD⟩
      have lt : i ≤ 1000 := by
        have z : (i : Int) < 100 := by
          have z1 : (i : Int) < _ := Int.lt_toNat.mp hi
          refine Int.lt_of_lt_of_le z1 ?_
          split <;> split <;> omega
        omega
      refine ⟨rfl, _, rfl, _, rfl, a, ns, i, (by show [V.ref a, V.int (0 + (i : Int))] = [V.ref a, V.int i]; rw [Int.zero_add]), s0.seq hS, lt, fun r x y hr0 x0 y0 y1 => ?_⟩
      have g1 : Pt (upd G r (.lst [.int x, .int y])) r := ⟨x, y, upd_same, x0, y0, y1⟩
      have nDr : D ≠ r := ne_of_none aD hr0
      refine ⟨some r, fun b => b = r, [.pot], fun b e => by rw [e]; exact ⟨_, upd_same⟩, fun b e => by cases e; exact ⟨rfl, g1⟩, .cons (.pot rfl) .nil, rfl, rfl, fun v G' d b' _ is po => ?_⟩
      have ed : d = .bl true := po
      rw [ed] at is
      cases is.at_
      refine ⟨_, b' _ _ (fun z => nDr (Option.some.inj z).symm) ((upd_ne nDr).trans aD), by rw [List.length_map, List.length_replicate, sizeLine_eq]; omega, fun b o e => ?_, ?_⟩
      · have nb : b ≠ r := fun z => by
          have := s0 _ _ e
          rw [z, hr0] at this
          cases this
        exact (upd_ne (ne_of_none e hD)).trans (b' _ _ (fun z => nb (Option.some.inj z).symm) ((upd_ne nb).trans (s0 _ _ e)))
      · rw [upd_same, List.replicate_succ', List.map_append]
        rfl
    · rintro G ⟨s0, aD⟩
      refine ⟨D, _, rfl, SqL.of aD, ?_⟩
      rw [show ∀ m : Nat, (List.replicate m true).all id = true from fun m => List.all_eq_true.mpr fun x hx => (List.mem_replicate.mp hx).2 ▸ rfl]
      exact k G
end
end K96


set_option Elab.async false
set_option linter.all false
set_option maxRecDepth 100000
set_option maxHeartbeats 8000000
namespace K96
open PySem PySem.Spec L2 PSG PSS DL
open PyProof.Rows (IntsAre AllBare)
set_option maxHeartbeats 0 in
theorem all_mk {l : PySem.W.OpenLaw} {w : World} {K : PySem.W.Frag} {h : Heap} {mg : Str → Option Value} {fa fd0 fd1 fd2 fd3 fd4 fd5 fd6 fd7 fd8 fd9 fd10 fd11 fd12 fd13 fd14 fd15 fd16 fd17 fd18 fd19 fd20 fd21 fd22 fd23 : Addr} (X : K.In h) (G : h.Ns mainGlobals mg) (hfa : mg "law" = some (.ref fa))
    {odd0 and0 odd1 and1 odd2 and2 odd3 and3 odd4 and4 odd5 and5 odd6 and6 odd7 and7 odd8 and8 odd9 and9 odd10 and10 odd11 and11 odd12 and12 odd13 and13 odd14 and14 odd15 and15 odd16 and16 odd17 and17 odd18 and18 odd19 and19 odd20 and20 odd21 and21 odd22 and22 odd23 and23 : Option Addr} {sld0 sld1 sld2 sld3 sld4 sld5 sld6 sld7 sld8 sld9 sld10 sld11 sld12 sld13 sld14 sld15 sld16 sld17 sld18 sld19 sld20 sld21 sld22 sld23 : Array (Option Value)} {ocd0 kVd0 dcd0 pmd0 cvd0 ctd0 ocd1 kVd1 dcd1 pmd1 cvd1 ctd1 ocd2 kVd2 dcd2 pmd2 cvd2 ctd2 ocd3 kVd3 dcd3 pmd3 cvd3 ctd3 ocd4 kVd4 dcd4 pmd4 cvd4 ctd4 ocd5 kVd5 dcd5 pmd5 cvd5 ctd5 ocd6 kVd6 dcd6 pmd6 cvd6 ctd6 ocd7 kVd7 dcd7 pmd7 cvd7 ctd7 ocd8 kVd8 dcd8 pmd8 cvd8 ctd8 ocd9 kVd9 dcd9 pmd9 cvd9 ctd9 ocd10 kVd10 dcd10 pmd10 cvd10 ctd10 ocd11 kVd11 dcd11 pmd11 cvd11 ctd11 ocd12 kVd12 dcd12 pmd12 cvd12 ctd12 ocd13 kVd13 dcd13 pmd13 cvd13 ctd13 ocd14 kVd14 dcd14 pmd14 cvd14 ctd14 ocd15 kVd15 dcd15 pmd15 cvd15 ctd15 ocd16 kVd16 dcd16 pmd16 cvd16 ctd16 ocd17 kVd17 dcd17 pmd17 cvd17 ctd17 ocd18 kVd18 dcd18 pmd18 cvd18 ctd18 ocd19 kVd19 dcd19 pmd19 cvd19 ctd19 ocd20 kVd20 dcd20 pmd20 cvd20 ctd20 ocd21 kVd21 dcd21 pmd21 cvd21 ctd21 ocd22 kVd22 dcd22 pmd22 cvd22 ctd22 ocd23 kVd23 dcd23 pmd23 cvd23 ctd23 : Value} {tk0 tk1 : Tok}
    (ad0 : PySem.W.nsIn K mainGlobals "_law_pot" = some (some (.ref fd0)))
    (ld0 : K.lookup fd0 = some ⟨ocd0, odd0, .func (PySem.W.fnOf "_law_pot" "_law_pot" (defArgs s__law_pot) (defBody s__law_pot) (defScope s__law_pot) .none kVd0 dcd0 pmd0 and0 cvd0 ctd0), sld0⟩)
    (cd0 : PySem.W.codeIn K cvd0 "_law_pot" = true)
    (kd0 : PySem.W.keepIn K (.ref fd0) = true)
    (ad1 : PySem.W.nsIn K mainGlobals "_law_draw" = some (some (.ref fd1)))
    (ld1 : K.lookup fd1 = some ⟨ocd1, odd1, .func (PySem.W.fnOf "_law_draw" "_law_draw" (defArgs s__law_draw) (defBody s__law_draw) (defScope s__law_draw) .none kVd1 dcd1 pmd1 and1 cvd1 ctd1), sld1⟩)
    (cd1 : PySem.W.codeIn K cvd1 "_law_draw" = true)
    (kd1 : PySem.W.keepIn K (.ref fd1) = true)
    (ad2 : PySem.W.nsIn K mainGlobals "entry_text" = some (some (.ref fd2)))
    (ld2 : K.lookup fd2 = some ⟨ocd2, odd2, .func (PySem.W.fnOf "entry_text" "entry_text" (defArgs s_entry_text) (defBody s_entry_text) (defScope s_entry_text) .none kVd2 dcd2 pmd2 and2 cvd2 ctd2), sld2⟩)
    (cd2 : PySem.W.codeIn K cvd2 "entry_text" = true)
    (kd2 : PySem.W.keepIn K (.ref fd2) = true)
    (ad3 : PySem.W.nsIn K mainGlobals "entries_text" = some (some (.ref fd3)))
    (ld3 : K.lookup fd3 = some ⟨ocd3, odd3, .func (PySem.W.fnOf "entries_text" "entries_text" (defArgs s_entries_text) (defBody s_entries_text) (defScope s_entries_text) .none kVd3 dcd3 pmd3 and3 cvd3 ctd3), sld3⟩)
    (cd3 : PySem.W.codeIn K cvd3 "entries_text" = true)
    (kd3 : PySem.W.keepIn K (.ref fd3) = true)
    (ad4 : PySem.W.nsIn K mainGlobals "listed_text" = some (some (.ref fd4)))
    (ld4 : K.lookup fd4 = some ⟨ocd4, odd4, .func (PySem.W.fnOf "listed_text" "listed_text" (defArgs s_listed_text) (defBody s_listed_text) (defScope s_listed_text) .none kVd4 dcd4 pmd4 and4 cvd4 ctd4), sld4⟩)
    (cd4 : PySem.W.codeIn K cvd4 "listed_text" = true)
    (kd4 : PySem.W.keepIn K (.ref fd4) = true)
    (ad5 : PySem.W.nsIn K mainGlobals "pairs_text" = some (some (.ref fd5)))
    (ld5 : K.lookup fd5 = some ⟨ocd5, odd5, .func (PySem.W.fnOf "pairs_text" "pairs_text" (defArgs s_pairs_text) (defBody s_pairs_text) (defScope s_pairs_text) .none kVd5 dcd5 pmd5 and5 cvd5 ctd5), sld5⟩)
    (cd5 : PySem.W.codeIn K cvd5 "pairs_text" = true)
    (kd5 : PySem.W.keepIn K (.ref fd5) = true)
    (ad6 : PySem.W.nsIn K mainGlobals "plan_text" = some (some (.ref fd6)))
    (ld6 : K.lookup fd6 = some ⟨ocd6, odd6, .func (PySem.W.fnOf "plan_text" "plan_text" (defArgs s_plan_text) (defBody s_plan_text) (defScope s_plan_text) .none kVd6 dcd6 pmd6 and6 cvd6 ctd6), sld6⟩)
    (cd6 : PySem.W.codeIn K cvd6 "plan_text" = true)
    (kd6 : PySem.W.keepIn K (.ref fd6) = true)
    (ad7 : PySem.W.nsIn K mainGlobals "_law_entry_text" = some (some (.ref fd7)))
    (ld7 : K.lookup fd7 = some ⟨ocd7, odd7, .func (PySem.W.fnOf "_law_entry_text" "_law_entry_text" (defArgs s__law_entry_text) (defBody s__law_entry_text) (defScope s__law_entry_text) .none kVd7 dcd7 pmd7 and7 cvd7 ctd7), sld7⟩)
    (cd7 : PySem.W.codeIn K cvd7 "_law_entry_text" = true)
    (kd7 : PySem.W.keepIn K (.ref fd7) = true)
    (ad8 : PySem.W.nsIn K mainGlobals "_law_order_text" = some (some (.ref fd8)))
    (ld8 : K.lookup fd8 = some ⟨ocd8, odd8, .func (PySem.W.fnOf "_law_order_text" "_law_order_text" (defArgs s__law_order_text) (defBody s__law_order_text) (defScope s__law_order_text) .none kVd8 dcd8 pmd8 and8 cvd8 ctd8), sld8⟩)
    (cd8 : PySem.W.codeIn K cvd8 "_law_order_text" = true)
    (kd8 : PySem.W.keepIn K (.ref fd8) = true)
    (ad9 : PySem.W.nsIn K mainGlobals "_law_pair_text" = some (some (.ref fd9)))
    (ld9 : K.lookup fd9 = some ⟨ocd9, odd9, .func (PySem.W.fnOf "_law_pair_text" "_law_pair_text" (defArgs s__law_pair_text) (defBody s__law_pair_text) (defScope s__law_pair_text) .none kVd9 dcd9 pmd9 and9 cvd9 ctd9), sld9⟩)
    (cd9 : PySem.W.codeIn K cvd9 "_law_pair_text" = true)
    (kd9 : PySem.W.keepIn K (.ref fd9) = true)
    (ad10 : PySem.W.nsIn K mainGlobals "_law_text" = some (some (.ref fd10)))
    (ld10 : K.lookup fd10 = some ⟨ocd10, odd10, .func (PySem.W.fnOf "_law_text" "_law_text" (defArgs s__law_text) (defBody s__law_text) (defScope s__law_text) .none kVd10 dcd10 pmd10 and10 cvd10 ctd10), sld10⟩)
    (cd10 : PySem.W.codeIn K cvd10 "_law_text" = true)
    (kd10 : PySem.W.keepIn K (.ref fd10) = true)
    (ad11 : PySem.W.nsIn K mainGlobals "_law_choice" = some (some (.ref fd11)))
    (ld11 : K.lookup fd11 = some ⟨ocd11, odd11, .func (PySem.W.fnOf "_law_choice" "_law_choice" (defArgs s__law_choice) (defBody s__law_choice) (defScope s__law_choice) .none kVd11 dcd11 pmd11 and11 cvd11 ctd11), sld11⟩)
    (cd11 : PySem.W.codeIn K cvd11 "_law_choice" = true)
    (kd11 : PySem.W.keepIn K (.ref fd11) = true)
    (ad12 : PySem.W.nsIn K mainGlobals "_law_name" = some (some (.ref fd12)))
    (ld12 : K.lookup fd12 = some ⟨ocd12, odd12, .func (PySem.W.fnOf "_law_name" "_law_name" (defArgs s__law_name) (defBody s__law_name) (defScope s__law_name) .none kVd12 dcd12 pmd12 and12 cvd12 ctd12), sld12⟩)
    (cd12 : PySem.W.codeIn K cvd12 "_law_name" = true)
    (kd12 : PySem.W.keepIn K (.ref fd12) = true)
    (ad13 : PySem.W.nsIn K mainGlobals "_law_names" = some (some (.ref fd13)))
    (ld13 : K.lookup fd13 = some ⟨ocd13, odd13, .func (PySem.W.fnOf "_law_names" "_law_names" (defArgs s__law_names) (defBody s__law_names) (defScope s__law_names) .none kVd13 dcd13 pmd13 and13 cvd13 ctd13), sld13⟩)
    (cd13 : PySem.W.codeIn K cvd13 "_law_names" = true)
    (kd13 : PySem.W.keepIn K (.ref fd13) = true)
    (ad14 : PySem.W.nsIn K mainGlobals "_law_shuffled" = some (some (.ref fd14)))
    (ld14 : K.lookup fd14 = some ⟨ocd14, odd14, .func (PySem.W.fnOf "_law_shuffled" "_law_shuffled" (defArgs s__law_shuffled) (defBody s__law_shuffled) (defScope s__law_shuffled) .none kVd14 dcd14 pmd14 and14 cvd14 ctd14), sld14⟩)
    (cd14 : PySem.W.codeIn K cvd14 "_law_shuffled" = true)
    (kd14 : PySem.W.keepIn K (.ref fd14) = true)
    (ad15 : PySem.W.nsIn K mainGlobals "_law_tables" = some (some (.ref fd15)))
    (ld15 : K.lookup fd15 = some ⟨ocd15, odd15, .func (PySem.W.fnOf "_law_tables" "_law_tables" (defArgs s__law_tables) (defBody s__law_tables) (defScope s__law_tables) .none kVd15 dcd15 pmd15 and15 cvd15 ctd15), sld15⟩)
    (cd15 : PySem.W.codeIn K cvd15 "_law_tables" = true)
    (kd15 : PySem.W.keepIn K (.ref fd15) = true)
    (ad16 : PySem.W.nsIn K mainGlobals "_law_entries_of" = some (some (.ref fd16)))
    (ld16 : K.lookup fd16 = some ⟨ocd16, odd16, .func (PySem.W.fnOf "_law_entries_of" "_law_entries_of" (defArgs s__law_entries_of) (defBody s__law_entries_of) (defScope s__law_entries_of) .none kVd16 dcd16 pmd16 and16 cvd16 ctd16), sld16⟩)
    (cd16 : PySem.W.codeIn K cvd16 "_law_entries_of" = true)
    (kd16 : PySem.W.keepIn K (.ref fd16) = true)
    (ad17 : PySem.W.nsIn K mainGlobals "_law_side" = some (some (.ref fd17)))
    (ld17 : K.lookup fd17 = some ⟨ocd17, odd17, .func (PySem.W.fnOf "_law_side" "_law_side" (defArgs s__law_side) (defBody s__law_side) (defScope s__law_side) .none kVd17 dcd17 pmd17 and17 cvd17 ctd17), sld17⟩)
    (cd17 : PySem.W.codeIn K cvd17 "_law_side" = true)
    (kd17 : PySem.W.keepIn K (.ref fd17) = true)
    (ad18 : PySem.W.nsIn K mainGlobals "_law_more" = some (some (.ref fd18)))
    (ld18 : K.lookup fd18 = some ⟨ocd18, odd18, .func (PySem.W.fnOf "_law_more" "_law_more" (defArgs s__law_more) (defBody s__law_more) (defScope s__law_more) .none kVd18 dcd18 pmd18 and18 cvd18 ctd18), sld18⟩)
    (cd18 : PySem.W.codeIn K cvd18 "_law_more" = true)
    (kd18 : PySem.W.keepIn K (.ref fd18) = true)
    (ad19 : PySem.W.nsIn K mainGlobals "_law_stream" = some (some (.ref fd19)))
    (ld19 : K.lookup fd19 = some ⟨ocd19, odd19, .func (PySem.W.fnOf "_law_stream" "_law_stream" (defArgs s__law_stream) (defBody s__law_stream) (defScope s__law_stream) .none kVd19 dcd19 pmd19 and19 cvd19 ctd19), sld19⟩)
    (cd19 : PySem.W.codeIn K cvd19 "_law_stream" = true)
    (kd19 : PySem.W.keepIn K (.ref fd19) = true)
    (ad20 : PySem.W.nsIn K mainGlobals "_law_emptied" = some (some (.ref fd20)))
    (ld20 : K.lookup fd20 = some ⟨ocd20, odd20, .func (PySem.W.fnOf "_law_emptied" "_law_emptied" (defArgs s__law_emptied) (defBody s__law_emptied) (defScope s__law_emptied) .none kVd20 dcd20 pmd20 and20 cvd20 ctd20), sld20⟩)
    (cd20 : PySem.W.codeIn K cvd20 "_law_emptied" = true)
    (kd20 : PySem.W.keepIn K (.ref fd20) = true)
    (ad21 : PySem.W.nsIn K mainGlobals "_law_plan" = some (some (.ref fd21)))
    (ld21 : K.lookup fd21 = some ⟨ocd21, odd21, .func (PySem.W.fnOf "_law_plan" "_law_plan" (defArgs s__law_plan) (defBody s__law_plan) (defScope s__law_plan) .none kVd21 dcd21 pmd21 and21 cvd21 ctd21), sld21⟩)
    (cd21 : PySem.W.codeIn K cvd21 "_law_plan" = true)
    (kd21 : PySem.W.keepIn K (.ref fd21) = true)
    (ad22 : PySem.W.nsIn K mainGlobals "_law_right" = some (some (.ref fd22)))
    (ld22 : K.lookup fd22 = some ⟨ocd22, odd22, .func (PySem.W.fnOf "_law_right" "_law_right" (defArgs s__law_right) (defBody s__law_right) (defScope s__law_right) .none kVd22 dcd22 pmd22 and22 cvd22 ctd22), sld22⟩)
    (cd22 : PySem.W.codeIn K cvd22 "_law_right" = true)
    (kd22 : PySem.W.keepIn K (.ref fd22) = true)
    (ad23 : PySem.W.nsIn K mainGlobals "law" = some (some (.ref fd23)))
    (ld23 : K.lookup fd23 = some ⟨ocd23, odd23, .func (PySem.W.fnOf "law" "law" (defArgs s_law) (defBody s_law) (defScope s_law) .none kVd23 dcd23 pmd23 and23 cvd23 ctd23), sld23⟩)
    (cd23 : PySem.W.codeIn K cvd23 "law" = true)
    (kd23 : PySem.W.keepIn K (.ref fd23) = true)
    (z_len : PySem.W.nsIn K mainGlobals "len" = some none)
    (z_max : PySem.W.nsIn K mainGlobals "max" = some none)
    (z_min : PySem.W.nsIn K mainGlobals "min" = some none)
    (z_abs : PySem.W.nsIn K mainGlobals "abs" = some none)
    (z_int : PySem.W.nsIn K mainGlobals "int" = some none)
    (z_divmod : PySem.W.nsIn K mainGlobals "divmod" = some none)
    (z_range : PySem.W.nsIn K mainGlobals "range" = some none)
    (z_isinstance : PySem.W.nsIn K mainGlobals "isinstance" = some none)
    (z_repr : PySem.W.nsIn K mainGlobals "repr" = some none)
    (z_all : PySem.W.nsIn K mainGlobals "all" = some none)
    (z_any : PySem.W.nsIn K mainGlobals "any" = some none)
    (z_bool : PySem.W.nsIn K mainGlobals "bool" = some none)
    (z_str : PySem.W.nsIn K mainGlobals "str" = some none)
    (z_set : PySem.W.nsIn K mainGlobals "set" = some none)
    (z_sorted : PySem.W.nsIn K mainGlobals "sorted" = some none)
    (z_enumerate : PySem.W.nsIn K mainGlobals "enumerate" = some none)
    (z_zip : PySem.W.nsIn K mainGlobals "zip" = some none)
    (z_reversed : PySem.W.nsIn K mainGlobals "reversed" = some none)
    (z_dict : PySem.W.nsIn K mainGlobals "dict" = some none)
    (z_list : PySem.W.nsIn K mainGlobals "list" = some none)
    (z_tuple : PySem.W.nsIn K mainGlobals "tuple" = some none)
    (zc0 : PySem.W.nsIn K mainGlobals "NO_ENTRIES" = some (some (.str "none" tk0)))
    (zc1 : PySem.W.nsIn K mainGlobals "DOWN" = some (some (.str " down" tk1))) :
    ∃ fd : FuncData, (∀ (s : Shared) (v : Value), BindsTo s fd ⟨[v], []⟩ [("_law_script", v)]) ∧ ∀ base : Heap, K.In base → base.Ns mainGlobals mg → FnG l.prog w K mg base CX0 20 fa fd ["_law_script"] (spLaw K) := by
  have e := hfa.symm.trans (PySem.W.mg_of X G ad23)
  cases e
  have F__law_pot := fun_mk (st := s__law_pot) ld0 cd0 kd0
  have b__law_pot := F__law_pot.binds (ps := ["_law_script", "_law_k"]) fun _ _ _ _ _ _ us hl => match us, hl with | [_, _], _ => rfl
  have g__law_pot := PySem.W.mg_of X G ad0
  have F__law_draw := fun_mk (st := s__law_draw) ld1 cd1 kd1
  have b__law_draw := F__law_draw.binds (ps := ["_law_pot_here", "_law_many"]) fun _ _ _ _ _ _ us hl => match us, hl with | [_, _], _ => rfl
  have g__law_draw := PySem.W.mg_of X G ad1
  have F_entry_text := fun_mk (st := s_entry_text) ld2 cd2 kd2
  have b_entry_text := F_entry_text.binds (ps := ["column", "direction"]) fun _ _ _ _ _ _ us hl => match us, hl with | [_, _], _ => rfl
  have g_entry_text := PySem.W.mg_of X G ad2
  have F_entries_text := fun_mk (st := s_entries_text) ld3 cd3 kd3
  have b_entries_text := F_entries_text.binds (ps := ["entries"]) fun _ _ _ _ _ _ us hl => match us, hl with | [_], _ => rfl
  have g_entries_text := PySem.W.mg_of X G ad3
  have F_listed_text := fun_mk (st := s_listed_text) ld4 cd4 kd4
  have b_listed_text := F_listed_text.binds (ps := ["texts"]) fun _ _ _ _ _ _ us hl => match us, hl with | [_], _ => rfl
  have g_listed_text := PySem.W.mg_of X G ad4
  have F_pairs_text := fun_mk (st := s_pairs_text) ld5 cd5 kd5
  have b_pairs_text := F_pairs_text.binds (ps := ["pairs"]) fun _ _ _ _ _ _ us hl => match us, hl with | [_], _ => rfl
  have g_pairs_text := PySem.W.mg_of X G ad5
  have F_plan_text := fun_mk (st := s_plan_text) ld6 cd6 kd6
  have b_plan_text := F_plan_text.binds (ps := ["plan"]) fun _ _ _ _ _ _ us hl => match us, hl with | [_], _ => rfl
  have g_plan_text := PySem.W.mg_of X G ad6
  have F__law_entry_text := fun_mk (st := s__law_entry_text) ld7 cd7 kd7
  have b__law_entry_text := F__law_entry_text.binds (ps := ["_law_entry"]) fun _ _ _ _ _ _ us hl => match us, hl with | [_], _ => rfl
  have g__law_entry_text := PySem.W.mg_of X G ad7
  have F__law_order_text := fun_mk (st := s__law_order_text) ld8 cd8 kd8
  have b__law_order_text := F__law_order_text.binds (ps := ["_law_entries"]) fun _ _ _ _ _ _ us hl => match us, hl with | [_], _ => rfl
  have g__law_order_text := PySem.W.mg_of X G ad8
  have F__law_pair_text := fun_mk (st := s__law_pair_text) ld9 cd9 kd9
  have b__law_pair_text := F__law_pair_text.binds (ps := ["_law_pair"]) fun _ _ _ _ _ _ us hl => match us, hl with | [_], _ => rfl
  have g__law_pair_text := PySem.W.mg_of X G ad9
  have F__law_text := fun_mk (st := s__law_text) ld10 cd10 kd10
  have b__law_text := F__law_text.binds (ps := ["_law_tree"]) fun _ _ _ _ _ _ us hl => match us, hl with | [_], _ => rfl
  have g__law_text := PySem.W.mg_of X G ad10
  have F__law_choice := fun_mk (st := s__law_choice) ld11 cd11 kd11
  have b__law_choice := F__law_choice.binds (ps := ["_law_pot_here", "_law_options"]) fun _ _ _ _ _ _ us hl => match us, hl with | [_, _], _ => rfl
  have g__law_choice := PySem.W.mg_of X G ad11
  have F__law_name := fun_mk (st := s__law_name) ld12 cd12 kd12
  have b__law_name := F__law_name.binds (ps := ["_law_pot_here", "_law_taken"]) fun _ _ _ _ _ _ us hl => match us, hl with | [_, _], _ => rfl
  have g__law_name := PySem.W.mg_of X G ad12
  have F__law_names := fun_mk (st := s__law_names) ld13 cd13 kd13
  have b__law_names := F__law_names.binds (ps := ["_law_pot_here", "_law_many"]) fun _ _ _ _ _ _ us hl => match us, hl with | [_, _], _ => rfl
  have g__law_names := PySem.W.mg_of X G ad13
  have F__law_shuffled := fun_mk (st := s__law_shuffled) ld14 cd14 kd14
  have b__law_shuffled := F__law_shuffled.binds (ps := ["_law_pot_here", "_law_some"]) fun _ _ _ _ _ _ us hl => match us, hl with | [_, _], _ => rfl
  have g__law_shuffled := PySem.W.mg_of X G ad14
  have F__law_tables := fun_mk (st := s__law_tables) ld15 cd15 kd15
  have b__law_tables := F__law_tables.binds (ps := ["_law_pot_here"]) fun _ _ _ _ _ _ us hl => match us, hl with | [_], _ => rfl
  have g__law_tables := PySem.W.mg_of X G ad15
  have F__law_entries_of := fun_mk (st := s__law_entries_of) ld16 cd16 kd16
  have b__law_entries_of := F__law_entries_of.binds (ps := ["_law_pot_here", "_law_references", "_law_most"]) fun _ _ _ _ _ _ us hl => match us, hl with | [_, _, _], _ => rfl
  have g__law_entries_of := PySem.W.mg_of X G ad16
  have F__law_side := fun_mk (st := s__law_side) ld17 cd17 kd17
  have b__law_side := F__law_side.binds (ps := ["_law_pot_here", "_law_table"]) fun _ _ _ _ _ _ us hl => match us, hl with | [_, _], _ => rfl
  have g__law_side := PySem.W.mg_of X G ad17
  have F__law_more := fun_mk (st := s__law_more) ld18 cd18 kd18
  have b__law_more := F__law_more.binds (ps := ["_law_pot_here", "_law_tree", "_law_references", "_law_table"]) fun _ _ _ _ _ _ us hl => match us, hl with | [_, _, _, _], _ => rfl
  have g__law_more := PySem.W.mg_of X G ad18
  have F__law_stream := fun_mk (st := s__law_stream) ld19 cd19 kd19
  have b__law_stream := F__law_stream.binds (ps := ["_law_pot_here", "_law_tables_here"]) fun _ _ _ _ _ _ us hl => match us, hl with | [_, _], _ => rfl
  have g__law_stream := PySem.W.mg_of X G ad19
  have F__law_emptied := fun_mk (st := s__law_emptied) ld20 cd20 kd20
  have b__law_emptied := F__law_emptied.binds (ps := ["_law_tree"]) fun _ _ _ _ _ _ us hl => match us, hl with | [_], _ => rfl
  have g__law_emptied := PySem.W.mg_of X G ad20
  have F__law_plan := fun_mk (st := s__law_plan) ld21 cd21 kd21
  have b__law_plan := F__law_plan.binds (ps := ["_law_pot_here", "_law_tables_here"]) fun _ _ _ _ _ _ us hl => match us, hl with | [_, _], _ => rfl
  have g__law_plan := PySem.W.mg_of X G ad21
  have F__law_right := fun_mk (st := s__law_right) ld22 cd22 kd22
  have b__law_right := F__law_right.binds (ps := ["_law_pot_here"]) fun _ _ _ _ _ _ us hl => match us, hl with | [_], _ => rfl
  have g__law_right := PySem.W.mg_of X G ad22
  have F_law := fun_mk (st := s_law) ld23 cd23 kd23
  have b_law := F_law.binds (ps := ["_law_script"]) fun _ _ _ _ _ _ us hl => match us, hl with | [_], _ => rfl
  have g_law := PySem.W.mg_of X G ad23
  have kb_plan_text : ∀ (s : Shared) (ws : List Value), K.In s.heap → ws.length = 1 → BindsTo s (PySem.W.fnOf "plan_text" "plan_text" (defArgs s_plan_text) (defBody s_plan_text) (defScope s_plan_text) .none kVd6 dcd6 pmd6 and6 cvd6 ctd6) ⟨[], (["plan"] : List Str).zip ws⟩ ((["plan"] : List Str).zip ws) := fun s ws _ hl => match ws, hl with | [_], _ => .of_eq (fd := (PySem.W.fnOf "plan_text" "plan_text" (defArgs s_plan_text) (defBody s_plan_text) (defScope s_plan_text) .none kVd6 dcd6 pmd6 and6 cvd6 ctd6)) rfl
  have T : Blt K mg := ⟨PySem.W.mg_none_of X G z_len, PySem.W.mg_none_of X G z_max, PySem.W.mg_none_of X G z_min, PySem.W.mg_none_of X G z_abs, PySem.W.mg_none_of X G z_int, PySem.W.mg_none_of X G z_divmod, PySem.W.mg_none_of X G z_range, PySem.W.mg_none_of X G z_isinstance, PySem.W.mg_none_of X G z_repr, PySem.W.mg_none_of X G z_all, PySem.W.mg_none_of X G z_any, PySem.W.mg_none_of X G z_bool, PySem.W.mg_none_of X G z_str, PySem.W.mg_none_of X G z_set, PySem.W.mg_none_of X G z_sorted, PySem.W.mg_none_of X G z_enumerate, PySem.W.mg_none_of X G z_zip, PySem.W.mg_none_of X G z_reversed, PySem.W.mg_none_of X G z_dict, PySem.W.mg_none_of X G z_list, PySem.W.mg_none_of X G z_tuple, fun hm hK hg => de_glob (v := (.str "none")) hg (by rw [hm]; exact PySem.W.mg_of X G zc0) ⟨_, rfl⟩ (fun r H => .str _), fun hm hK hg => de_glob (v := (.str " down")) hg (by rw [hm]; exact PySem.W.mg_of X G zc1) ⟨_, rfl⟩ (fun r H => .str _)⟩
  refine ⟨(PySem.W.fnOf "law" "law" (defArgs s_law) (defBody s_law) (defScope s_law) .none kVd23 dcd23 pmd23 and23 cvd23 ctd23), fun s v => .of_eq rfl, fun base _ _ => ?_⟩
  have G__law_draw := okD_draw (P := l.prog) (w := w) (mg := mg) (base := base) F__law_draw T
  have G_entry_text := ok_entry_text (P := l.prog) (w := w) (mg := mg) (base := base) F_entry_text T
  have G_entries_text := ok_entries_text (P := l.prog) (w := w) (mg := mg) (base := base) F_entries_text T F_entry_text b_entry_text g_entry_text G_entry_text
  have G_listed_text := ok_listed_text (P := l.prog) (w := w) (mg := mg) (base := base) F_listed_text T
  have G_pairs_text := ok_pairs_text (P := l.prog) (w := w) (mg := mg) (base := base) F_pairs_text T F_entries_text b_entries_text g_entries_text G_entries_text F_listed_text b_listed_text g_listed_text G_listed_text
  have G_plan_text := ok_plan_text (P := l.prog) (w := w) (mg := mg) (base := base) F_plan_text T b_plan_text g_plan_text F_entries_text b_entries_text g_entries_text G_entries_text F_pairs_text b_pairs_text g_pairs_text G_pairs_text 13
  have G__law_entry_text := ok__law_entry_text (P := l.prog) (w := w) (mg := mg) (base := base) F__law_entry_text T
  have G__law_order_text := ok__law_order_text (P := l.prog) (w := w) (mg := mg) (base := base) F__law_order_text T F__law_entry_text b__law_entry_text g__law_entry_text G__law_entry_text
  have G__law_pair_text := ok__law_pair_text (P := l.prog) (w := w) (mg := mg) (base := base) F__law_pair_text T F__law_entry_text b__law_entry_text g__law_entry_text G__law_entry_text
  have G__law_text := ok__law_text (P := l.prog) (w := w) (mg := mg) (base := base) F__law_text T b__law_text g__law_text F__law_order_text b__law_order_text g__law_order_text G__law_order_text F__law_pair_text b__law_pair_text g__law_pair_text G__law_pair_text 13
  have G__law_choice := ok__law_choice (P := l.prog) (w := w) (mg := mg) (base := base) F__law_choice T F__law_draw b__law_draw g__law_draw G__law_draw
  have G__law_name := ok__law_name (P := l.prog) (w := w) (mg := mg) (base := base) F__law_name T F__law_draw b__law_draw g__law_draw G__law_draw
  have G__law_names := ok__law_names (P := l.prog) (w := w) (mg := mg) (base := base) F__law_names T F__law_name b__law_name g__law_name G__law_name fl__law_name
  have G__law_shuffled := ok__law_shuffled (P := l.prog) (w := w) (mg := mg) (base := base) F__law_shuffled T F__law_draw b__law_draw g__law_draw G__law_draw
  have G__law_tables := ok__law_tables (P := l.prog) (w := w) (mg := mg) (base := base) F__law_tables T F__law_names b__law_names g__law_names G__law_names
  have G__law_entries_of := ok__law_entries_of (P := l.prog) (w := w) (mg := mg) (base := base) F__law_entries_of T F__law_shuffled b__law_shuffled g__law_shuffled G__law_shuffled F__law_draw b__law_draw g__law_draw G__law_draw
  have G__law_side := ok__law_side (P := l.prog) (w := w) (mg := mg) (base := base) F__law_side T F__law_choice b__law_choice g__law_choice G__law_choice F__law_entries_of b__law_entries_of g__law_entries_of G__law_entries_of F__law_draw b__law_draw g__law_draw G__law_draw
  have G__law_more := ok__law_more (P := l.prog) (w := w) (mg := mg) (base := base) F__law_more T F__law_draw b__law_draw g__law_draw G__law_draw F__law_choice b__law_choice g__law_choice G__law_choice F__law_shuffled b__law_shuffled g__law_shuffled G__law_shuffled F__law_side b__law_side g__law_side G__law_side
  have G__law_stream := ok__law_stream (P := l.prog) (w := w) (mg := mg) (base := base) F__law_stream T F__law_shuffled b__law_shuffled g__law_shuffled G__law_shuffled F__law_draw b__law_draw g__law_draw G__law_draw F__law_side b__law_side g__law_side G__law_side F__law_more b__law_more g__law_more G__law_more F__law_entries_of b__law_entries_of g__law_entries_of G__law_entries_of
  have G__law_emptied := ok__law_emptied (P := l.prog) (w := w) (mg := mg) (base := base) F__law_emptied T b__law_emptied g__law_emptied 13
  have G__law_plan := ok__law_plan (P := l.prog) (w := w) (mg := mg) (base := base) F__law_plan T F__law_stream b__law_stream g__law_stream G__law_stream F__law_draw b__law_draw g__law_draw G__law_draw F__law_entries_of b__law_entries_of g__law_entries_of G__law_entries_of F__law_emptied b__law_emptied g__law_emptied G__law_emptied
  have G__law_right := ok__law_right (P := l.prog) (w := w) (mg := mg) (base := base) F__law_right T F__law_tables b__law_tables g__law_tables G__law_tables F__law_plan b__law_plan g__law_plan G__law_plan F_plan_text b_plan_text g_plan_text G_plan_text F__law_text b__law_text g__law_text G__law_text kb_plan_text
  exact ok_law F_law T F__law_pot b__law_pot g__law_pot F__law_right b__law_right g__law_right G__law_right
end K96

set_option Elab.async false
set_option maxRecDepth 100000
set_option maxHeartbeats 0
section
open PySem PySem.W PyProof.Rows
open_top head_k96 for PySem.Challenge.rw_pairsigns_k96_plan_texts
end
open PySem PySem.W PyProof.Rows
set_option maxRecDepth 100000 in
set_option maxHeartbeats 0 in
theorem PySem.Challenge.cw_pairsigns_k96_plan_texts_holds : PySem.Challenge.rw_pairsigns_k96_plan_texts.Holds :=
  head_k96 (by
  k_fill
  refine PSG.walkG (l := PySem.Challenge.rw_pairsigns_k96_plan_texts) (m := 63) (n := 20) (x := "_law_script") (CT := fun _ => L2.CX0) (sp := fun w => K96.spLaw _) rfl (by decide) rfl ⟨rfl, by decide, by decide⟩ (fun w h Y => PySem.W.kIn_of Y) ?F (fun _ _ a ns hl _ hS => ⟨a, ns, rfl, hS, hl, fun _ => rfl⟩) (fun _ _ _ _ _ h => h)
  case F =>
    intro w mg fa h KX G hmg
    refine' K96.all_mk KX G hmg ?ad0 ?ld0 ?cd0 ?kd0 ?ad1 ?ld1 ?cd1 ?kd1 ?ad2 ?ld2 ?cd2 ?kd2 ?ad3 ?ld3 ?cd3 ?kd3 ?ad4 ?ld4 ?cd4 ?kd4 ?ad5 ?ld5 ?cd5 ?kd5 ?ad6 ?ld6 ?cd6 ?kd6 ?ad7 ?ld7 ?cd7 ?kd7 ?ad8 ?ld8 ?cd8 ?kd8 ?ad9 ?ld9 ?cd9 ?kd9 ?ad10 ?ld10 ?cd10 ?kd10 ?ad11 ?ld11 ?cd11 ?kd11 ?ad12 ?ld12 ?cd12 ?kd12 ?ad13 ?ld13 ?cd13 ?kd13 ?ad14 ?ld14 ?cd14 ?kd14 ?ad15 ?ld15 ?cd15 ?kd15 ?ad16 ?ld16 ?cd16 ?kd16 ?ad17 ?ld17 ?cd17 ?kd17 ?ad18 ?ld18 ?cd18 ?kd18 ?ad19 ?ld19 ?cd19 ?kd19 ?ad20 ?ld20 ?cd20 ?kd20 ?ad21 ?ld21 ?cd21 ?kd21 ?ad22 ?ld22 ?cd22 ?kd22 ?ad23 ?ld23 ?cd23 ?kd23 ?z_len ?z_max ?z_min ?z_abs ?z_int ?z_divmod ?z_range ?z_isinstance ?z_repr ?z_all ?z_any ?z_bool ?z_str ?z_set ?z_sorted ?z_enumerate ?z_zip ?z_reversed ?z_dict ?z_list ?z_tuple ?zc0 ?zc1
    (case ad0 => k_is)
    (case ld0 => k_is)
    (case cd0 => k_is)
    (case kd0 => k_is)
    (case ad1 => k_is)
    (case ld1 => k_is)
    (case cd1 => k_is)
    (case kd1 => k_is)
    (case ad2 => k_is)
    (case ld2 => k_is)
    (case cd2 => k_is)
    (case kd2 => k_is)
    (case ad3 => k_is)
    (case ld3 => k_is)
    (case cd3 => k_is)
    (case kd3 => k_is)
    (case ad4 => k_is)
    (case ld4 => k_is)
    (case cd4 => k_is)
    (case kd4 => k_is)
    (case ad5 => k_is)
    (case ld5 => k_is)
    (case cd5 => k_is)
    (case kd5 => k_is)
    (case ad6 => k_is)
    (case ld6 => k_is)
    (case cd6 => k_is)
    (case kd6 => k_is)
    (case ad7 => k_is)
    (case ld7 => k_is)
    (case cd7 => k_is)
    (case kd7 => k_is)
    (case ad8 => k_is)
    (case ld8 => k_is)
    (case cd8 => k_is)
    (case kd8 => k_is)
    (case ad9 => k_is)
    (case ld9 => k_is)
    (case cd9 => k_is)
    (case kd9 => k_is)
    (case ad10 => k_is)
    (case ld10 => k_is)
    (case cd10 => k_is)
    (case kd10 => k_is)
    (case ad11 => k_is)
    (case ld11 => k_is)
    (case cd11 => k_is)
    (case kd11 => k_is)
    (case ad12 => k_is)
    (case ld12 => k_is)
    (case cd12 => k_is)
    (case kd12 => k_is)
    (case ad13 => k_is)
    (case ld13 => k_is)
    (case cd13 => k_is)
    (case kd13 => k_is)
    (case ad14 => k_is)
    (case ld14 => k_is)
    (case cd14 => k_is)
    (case kd14 => k_is)
    (case ad15 => k_is)
    (case ld15 => k_is)
    (case cd15 => k_is)
    (case kd15 => k_is)
    (case ad16 => k_is)
    (case ld16 => k_is)
    (case cd16 => k_is)
    (case kd16 => k_is)
    (case ad17 => k_is)
    (case ld17 => k_is)
    (case cd17 => k_is)
    (case kd17 => k_is)
    (case ad18 => k_is)
    (case ld18 => k_is)
    (case cd18 => k_is)
    (case kd18 => k_is)
    (case ad19 => k_is)
    (case ld19 => k_is)
    (case cd19 => k_is)
    (case kd19 => k_is)
    (case ad20 => k_is)
    (case ld20 => k_is)
    (case cd20 => k_is)
    (case kd20 => k_is)
    (case ad21 => k_is)
    (case ld21 => k_is)
    (case cd21 => k_is)
    (case kd21 => k_is)
    (case ad22 => k_is)
    (case ld22 => k_is)
    (case cd22 => k_is)
    (case kd22 => k_is)
    (case ad23 => k_is)
    (case ld23 => k_is)
    (case cd23 => k_is)
    (case kd23 => k_is)
    (case z_len => k_is)
    (case z_max => k_is)
    (case z_min => k_is)
    (case z_abs => k_is)
    (case z_int => k_is)
    (case z_divmod => k_is)
    (case z_range => k_is)
    (case z_isinstance => k_is)
    (case z_repr => k_is)
    (case z_all => k_is)
    (case z_any => k_is)
    (case z_bool => k_is)
    (case z_str => k_is)
    (case z_set => k_is)
    (case z_sorted => k_is)
    (case z_enumerate => k_is)
    (case z_zip => k_is)
    (case z_reversed => k_is)
    (case z_dict => k_is)
    (case z_list => k_is)
    (case z_tuple => k_is)
    (case zc0 => k_is)
    (case zc1 => k_is))
