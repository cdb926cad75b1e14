import PyProof.Rows.All
import Wide.All
import OpenK.AllK
import Wide.FinOn
import HandS.Base
import HandS.Call
import HandS.List
import HandS.Comp
import HandS.Dict
import HandS.Iter
import HandS.Text
import HandS.Ends
import HandS.Exc
import HandS.ExcOwn
import HandS.TryOnly
import HandS.TryMany
import HandS.ExcInit
import HandS.ExcField
import HandS.ExcIs
import HandS.IsInst
import HandS.WideBits
import HandS.ForMost
import HandS.WordsExc
import KE.KTryMore
import KE.KExcHand
import KE.KExcInit
import HandS.Small
import HandS.SetFor
import HandS.Zip
import PyProof.Draws
import PyProof.EnumMake
import HandS.HotCalls
import HandS.ExcInitHot
import HandS.Replace
import PyProof.TupleCall
import PyProof.CollectStr
import HandS.SetKeys
import HandS.Strs
import HandS.More
import HandS.SetBool
import HandS.DictComp
import KE.GoesMore
import HandS.Rev
import KE.KDictList
import HandS.GenBody
import HandS.GenYield
import HandS.GenCall
import HandS.GenList
import KE.GoesZip
import KE.GoesEnum
import KE.GoesNew
import KE.DataFind
import HandS.Defaults
import HandS.Deep
import PyProof.IsRules
import HandS.Codes
import HandS.Property
import HandS.Star
import HandS.Conv
import PySem.Challenge.RW_pairsigns_k19_whole_signs_orders_togethe
set_option linter.all false
set_option Elab.async false
set_option linter.all false
set_option maxRecDepth 100000
set_option maxHeartbeats 4000000
namespace PSG
open PySem PySem.Spec PyProof.Rows L2
/-! ### promises of defs that know that no repr is under way -/
structure FnG (P : Program) (w : World) (K : PySem.W.Frag) (mg : Str → Option Value) (base : Heap) (CT : CXT) (n : Nat) (at_ : Addr) (fd : FuncData) (ps : List Str) (sp : Sp) : Prop where
  many : ∀ vs H Q E, sp vs H Q E → vs.length = ps.length
  goes : ∀ (B : Around) (up : List Env) (s : Shared) (H : Hp) (ar : Args) (us : List Value) (vs : List V) (Q : VK) (E : XK),
    Room n B → B.guards = some [] → Env0 P w K mg base B up s H →
    BindsTo s fd ar (ps.zip us) → Vals vs us → sp vs H Q E →
    codeAny (model P w) B (.call (.ref at_) ar) (CR CT up P w H s Q E) s
section
variable {P : Program} {w : World} {K : PySem.W.Frag} {mg : Str → Option Value} {base : Heap} {CT : CXT}
theorem FnG.of {n : Nat} {at_ : Addr} {fd : FuncData} {ps : List Str} {sp : Sp} (F : FnOk P w K mg base CT n at_ fd ps sp) : FnG P w K mg base CT n at_ fd ps sp :=
  ⟨F.len, fun B up s H ar us vs Q E r _ => F.run B up s H ar us vs Q E r⟩
theorem fnG {n : Nat} {at_ : Addr} {nm ql : Str} {pa : Arguments} {bd : List Stmt} {sc : Scope} {dv kv dc pm cv ct oc : Value} {an od : Option Addr}
    {sl : Array (Option Value)} {N ps : List Str} {sp : Sp}
    (found : K.lookup at_ = some ⟨oc, od, .func (PySem.W.fnOf nm ql pa bd sc dv kv dc pm an cv ct), sl⟩)
    (code : PySem.W.codeIn K cv ql = true) (S : FnScope N ps sc) (many : ∀ vs H Q E, sp vs H Q E → vs.length = ps.length)
    (main : ∀ (B : Around) (up : List Env) (s : Shared) (H : Hp) (vs : List V) (Q : VK) (E : XK),
      Room n (B.deeper (envOfC ql sc s.heap.objs.size at_ cv)) → B.guards = some [] → sp vs H Q E →
      ∃ t, PSs (cxOf CT P w K mg base N ql sc at_ cv B up s H E) bd t ∧ t { nx := fun _ G => Q .non G, rt := Q } (start N vs) H) :
    FnG P w K mg base CT (n + 1) at_ (PySem.W.fnOf nm ql pa bd sc dv kv dc pm an cv ct) ps sp where
  many := many
  goes := by
    intro B up s H ar us vs Q E room gd en bi va ho
    have keepB : ∀ b o, base.get? b = some o → s.heap.get? b = some o := fun b o z => (en.bs b o z).1
    have atK := en.mod.kin.keeps keepB
    refine codeAny_call_function room.depth (atK _ _ found) rfl S.co S.gen rfl (PySem.W.codeRec_of atK code) (bi _ _ _ _ ?_)
    refine wpAny_newFunctionEnv_cells S.kind (fun y hy => ?_) fun env he t1 x => ?_
    · obtain ⟨n, v⟩ := y
      cases S.par n (List.of_mem_zip hy).1 with
      | inl z => exact .inl z
      | inr z => exact .inr ⟨z, PySem.W.cellsFrom_some _ _ _ (.inl z)⟩
    · cases he
      refine ⟨(en.mod.nolimit.keeps keepB).keeps x.toInCall.keep, codeAny_func ?_⟩
      obtain ⟨t, der, rd⟩ := main B up s H vs Q E (room.deeper _) gd ho
      have J := inv_start (CX := CT) (E := E) S room.hd en (many _ _ _ _ ho) va x
      refine wpAny_mono (der.run [] t1 _ H _ J rd) ?_ fun _ _ z => z
      intro fl t2 z
      cases fl with
      | next =>
        obtain ⟨_, G, J2, q⟩ := z
        exact ⟨V.non, G, J2.os, J2.bare, J2.base, J2.hok, rfl, q⟩
      | ret u =>
        obtain ⟨v, _, G, J2, rel, q⟩ := z
        exact ⟨v, G, J2.os, J2.bare, J2.base, J2.hok, rel, q⟩
      | brk => exact (show False from z.choose_spec.choose_spec.2).elim
      | cont => exact (show False from z.choose_spec.choose_spec.2).elim
end
section
variable {X : Cx} {CT : CXT} {n : Nat} {at_ : Addr} {fd : FuncData} {ps : List Str} {sp : Sp} {dvs : List V} {ds : List Value} {E : XK} {x : Str} {p pos : Pos} {e : Expr} {es : List Expr} {t : TA}
theorem run_g {pins : List (Addr × Obj)} {σ : L2.St} {H : Hp} {s : Shared} {Q : VK} {us : List Value} {vs : List V}
    (F : FnG X.prog X.w X.K X.mg X.base CT n at_ fd ps sp) (room : Room n X.A) (gd : X.A.guards = some []) (bi : Binds X.K fd ps ds) (dv : Vals dvs ds) (pass : Passes CT X E)
    (I : Inv X pins σ H s) (va : Vals vs us) (ho : sp (vs ++ dvs) H Q E) : wpAny (model X.prog X.w) X.A (call (.ref at_) us) (EP X pins σ Q) X.xe s := by
  have va2 := va.append dv
  have many : (us ++ ds).length = ps.length := va2.length.symm.trans (F.many _ _ _ _ ho)
  refine wpAny_call (codeAny_mono (F.goes X.A X.stack s H ⟨us, []⟩ (us ++ ds) (vs ++ dvs) Q E room gd I.env0 (bi s us I.kIn many) va2 ho) ?_)
  intro r t2 z
  match r, z with
  | .error er, z => exact pass pins σ H s er t2 I z
  | .ok (.ret u), z => exact I.after z
theorem pe_callG (F : FnG X.prog X.w X.K X.mg X.base CT n at_ fd ps sp) (room : Room n X.A) (gd : X.A.guards = some []) (hg : Gl X x) (hm : X.mg x = some (.ref at_)) (kp : PySem.W.keepIn X.K (.ref at_) = true)
    (bi : Binds X.K fd ps ds) (dv : Vals dvs ds) (pass : Passes CT X E) (ha : PA X (e :: es) t) (nd : (x == ("__debug__" : Str)) = false := by decide)
    (se : starEach (e :: es) X.env = (false, eval e X.env) :: starEach es X.env := by rfl) (sn : (backTo pos (starEach es X.env)).any (·.1) = false := by rfl) :
    PE X (.Call (.Name x p) (e :: es) [] pos) (tCall sp dvs E t) where
  run := fun pins s σ H Q I ho => wpAny_Call_Name_kw (ld_glob I hg hm (PySem.W.callWith_K (h₀ := X.base) I.ok.mod.kin kp
    (thn (ha.run pos pins s σ H _ I ho) fun us s1 ⟨vs, H1, I1, r, q⟩ => ⟨I1.kIn, run_g F room gd bi dv pass I1 r q⟩) se sn) nd)
end
end PSG

set_option Elab.async false
set_option linter.all false
set_option maxRecDepth 100000
set_option maxHeartbeats 4000000
namespace PSG
open PySem PySem.Spec L2
open PyProof.Rows (IntsAre AllBare)
/-! ### data with flat dicts, and repr -/
/-- a key as data -/
def keyD : Key → PyData
  | .inl i => .int i
  | .inr x => .str x
/-- a value that is no object, as data -/
def flatD : V → Option PyData
  | .non => some .none
  | .bl b => some (.bool b)
  | .int i => some (.int i)
  | .str x => some (.str x)
  | _ => none
mutual
/-- a value that is data, all of it tracked -/
inductive Dt (far : Bool) (H : Hp) : V → PyData → Prop
  | non : Dt far H .non .none
  | bl (b : Bool) : Dt far H (.bl b) (.bool b)
  | int (i : Int) : Dt far H (.int i) (.int i)
  | str (x : Str) : Dt far H (.str x) (.str x)
  | lst {a : Addr} {xs : List V} {ds : List PyData} : H a = some (.lst xs) → (far = true → a ≠ sysModules) → DtAll far H xs ds → Dt far H (.ref a) (.list ds)
  | tup {a : Addr} {xs : List V} {ds : List PyData} : H a = some (.tup xs) → DtAll far H xs ds → Dt far H (.ref a) (.tuple ds)
  | dict {a : Addr} {kvs : List (Key × V)} {kds : List (Key × PyData)} : H a = some (.dK kvs) → Paired (fun p q => p.1 = q.1 ∧ flatD p.2 = some q.2) kvs kds →
      Dt far H (.ref a) (.dict (kds.map fun q => (keyD q.1, q.2)))
inductive DtAll (far : Bool) (H : Hp) : List V → List PyData → Prop
  | nil : DtAll far H [] []
  | cons {v : V} {vs : List V} {d : PyData} {ds : List PyData} : Dt far H v d → DtAll far H vs ds → DtAll far H (v :: vs) (d :: ds)
end
mutual
def hasList : PyData → Bool
  | .list _ => true
  | .tuple xs => hasListAll xs
  | _ => false
def hasListAll : List PyData → Bool
  | [] => false
  | x :: xs => hasList x || hasListAll xs
end
theorem flat_reads {h : Heap} {v : V} {u : Value} {d : PyData} (e : flatD v = some d) (r : RelV v u) : Reads h u d [] := by
  cases v with
  | non => cases e; cases r; exact .none
  | bl b => cases e; cases r; exact .bool b
  | int i => cases e; obtain ⟨t, rfl⟩ := r; exact .int i t
  | str x => cases e; obtain ⟨t, rfl⟩ := r; exact .str x t
  | byt _ => cases e
  | flt _ => cases e
  | ref _ => cases e
  | ty _ => cases e
theorem key_reads {h : Heap} {k : Key} {u : Value} (e : keyIs k u = true) : Reads h u (keyD k) [] := by
  rcases keyIs_shape e with ⟨i, t, rfl, rfl⟩ | ⟨x, t, rfl, rfl⟩
  · exact .int i t
  · exact .str x t
theorem dict_reads {P : Program} {w : World} {h : Heap} : ∀ {kvs : List (Key × V)} {kds : List (Key × PyData)} {vs : List (Key × Value)} {es : List DictEntry},
    Paired (fun p q => p.1 = q.1 ∧ flatD p.2 = some q.2) kvs kds → KV kvs vs → Pairs (mixKind P w) es vs →
    ReadsAll h (es.map (·.key)) ((kds.map fun q => (keyD q.1, q.2)).map (·.1)) [] ∧ ReadsAll h (es.map (·.val)) ((kds.map fun q => (keyD q.1, q.2)).map (·.2)) []
  | _, _, _, _, .nil, .nil, .nil => ⟨.nil, .nil⟩
  | _, _, _, _, .cons ⟨e1, f⟩ t1, .cons ⟨e2, r⟩ t2, .cons k v t3 => by
    obtain ⟨i1, i2⟩ := dict_reads (h := h) t1 t2 t3
    have k' : keyIs _ _ = true := k
    rw [← e2, e1] at k'
    refine ⟨ReadsAll.cons (as := []) (key_reads k') i1, ReadsAll.cons (as := []) ?_ i2⟩
    dsimp only
    rw [v]
    exact flat_reads f r
section
variable {X : Cx} {pins : List (Addr × Obj)} {σ : L2.St} {H : Hp} {s : Shared}
mutual
/-- such data is read; where it has no list, sys.modules is not within -/
theorem Dt.reads {far : Bool} (I : Inv X pins σ H s) : ∀ {d : PyData} {v : V} {u : Value}, Dt far H v d → RelV v u → ∃ as, Reads s.heap u d as ∧ ((far = true ∨ hasList d = false) → sysModules ∉ as)
  | _, _, _, .non, r => by cases r; exact ⟨_, .none, fun _ m => nomatch m⟩
  | _, _, _, .bl b, r => by cases r; exact ⟨_, .bool b, fun _ m => nomatch m⟩
  | _, _, _, .int i, r => by obtain ⟨t, rfl⟩ := r; exact ⟨_, .int i t, fun _ m => nomatch m⟩
  | _, _, _, .str x, r => by obtain ⟨t, rfl⟩ := r; exact ⟨_, .str x t, fun _ m => nomatch m⟩
  | _, _, _, .lst (a := a) (xs := xs) e fr t, r => by
    cases r
    obtain ⟨_, its, n, rv, ho⟩ := I.hok a (.lst xs) e
    obtain ⟨as, z, n1⟩ := DtAll.reads I t rv
    refine ⟨_, Reads.list ho rfl rfl z, fun no m => ?_⟩
    rcases no with no | no
    · rcases List.mem_cons.mp m with m | m
      · exact fr no m.symm
      · exact n1 (.inl no) m
    · simp [hasList] at no
  | _, _, _, .tup (a := a) (xs := xs) e t, r => by
    cases r
    obtain ⟨_, its, rv, o, ho, hc, n, hd⟩ := I.hok a (.tup xs) e
    obtain ⟨as, z, no⟩ := DtAll.reads I t rv
    exact ⟨_, Reads.tuple ho hc hd z, fun q => no (by simpa [hasList] using q)⟩
  | _, _, _, .dict (a := a) (kvs := kvs) e pr, r => by
    cases r
    obtain ⟨_, low, vs, kv, o, es, ep, ho, hx, hd, _, pa, _⟩ := dk_of I.hok e
    obtain ⟨z1, z2⟩ := dict_reads (h := s.heap) pr kv pa
    refine ⟨_, Reads.dict ho hx.1 hd z1 z2, fun _ m => ?_⟩
    rw [List.mem_append] at m
    rcases m with m | m
    · rcases List.mem_cons.mp m with m | m
      · rw [← m] at low
        simp at low
      · cases m
    · cases m
theorem DtAll.reads {far : Bool} (I : Inv X pins σ H s) : ∀ {ds : List PyData} {vs : List V} {us : List Value}, DtAll far H vs ds → Vals vs us → ∃ as, ReadsAll s.heap us ds as ∧ ((far = true ∨ hasListAll ds = false) → sysModules ∉ as)
  | _, _, _, .nil, r => by cases r; exact ⟨_, .nil, fun _ m => nomatch m⟩
  | _, _, _, .cons h t, r => by
    cases r with
    | cons r1 r2 =>
      obtain ⟨as, z1, n1⟩ := Dt.reads I h r1
      obtain ⟨bs, z2, n2⟩ := DtAll.reads I t r2
      refine ⟨_, .cons z1 z2, fun no m => ?_⟩
      simp only [hasListAll, Bool.or_eq_false_iff] at no
      rcases List.mem_append.mp m with m | m
      · exact n1 (no.imp id And.left) m
      · exact n2 (no.imp id And.right) m
end
end
/-- repr(x) of data -/
def rRep : List V → Hp → VK → Prop := fun xs H Q => ∃ x d far, xs = [x] ∧ Dt far H x d ∧ (d.hasDict = true → far = true ∨ hasList d = false) ∧ d.showable = true ∧ d.shown.length ≤ sizeLine ∧ d.depth ≤ 60 ∧ Q (.str d.shown) H
section
variable {X : Cx}
theorem call_repr {n : Nat} (room : Room n X.A) (gd : X.A.guards = some []) : CallR X (.builtin "repr") rRep := by
  intro pins s σ H xs us Q I r ho
  obtain ⟨x, d, far, rfl, dq, cl, sh, sz, dp, q⟩ := ho
  cases r with
  | @cons _ u _ ws rx rr =>
    cases rr
    obtain ⟨as, rd, no1⟩ := dq.reads I rx
    have nosys : d.hasDict = true → sysModules ∉ as := fun z => no1 (cl z)
    have un := room.un
    cases rd with
    | none =>
      exact P.repr_of_none ⟨.str _, H, I.tok _, ⟨_, rfl⟩, by simpa only [PyData.shown] using q⟩
    | bool b =>
      refine P.repr_of_bool ⟨.str _, H, I.tok _, ⟨_, rfl⟩, ?_⟩
      simp only [PyData.shown] at q
      cases b
      · exact q
      · exact q
    | int i t =>
      exact P.repr_of_int (by simpa [PyData.showable] using sh) ⟨.str _, H, I.tok _, ⟨_, rfl⟩, by simpa only [PyData.shown] using q⟩
    | str z t =>
      simp only [PyData.shown] at q sz
      exact P.repr_of_str ⟨.str _, H, I.tok _, ⟨_, rfl⟩, q⟩ sz
    | list h1 h2 h3 h4 =>
      exact repr_of_reads' (Reads.list h1 h2 h3 h4) sh nosys gd (by omega) (fun _ _ z => z) (fun h' u tk k => ⟨.str _, H, I.kept k, ⟨_, rfl⟩, q⟩) sz
    | tuple h1 h2 h3 h4 =>
      exact repr_of_reads' (Reads.tuple h1 h2 h3 h4) sh nosys gd (by omega) (fun _ _ z => z) (fun h' u tk k => ⟨.str _, H, I.kept k, ⟨_, rfl⟩, q⟩) sz
    | dict h1 h2 h3 h4 h5 =>
      exact repr_of_reads' (Reads.dict h1 h2 h3 h4 h5) sh nosys gd (by omega) (fun _ _ z => z) (fun h' u tk k => ⟨.str _, H, I.kept k, ⟨_, rfl⟩, q⟩) sz
end
/-! ### the law's own end -/
theorem hidT_ns {h : Heap} {H : Hp} {b : Addr} {m : Str → Option Value} (z : h.Ns b m) (free : ∀ (o : Obj) (es : Array DictEntry) (ep : Nat), h.get? b = some o → o.data = .dict es ep → H b = none) : (hidT h H).Ns b m := by
  obtain ⟨o, es, ep, e, d, r⟩ := z
  exact ⟨o, es, ep, hidT_get e (free o es ep e d), d, r⟩
theorem lawG_call {P : Program} {w : World} {K : PySem.W.Frag} {mg mb : Str → Option Value} {CT : CXT} {n : Nat} {fa a : Addr} {fd : FuncData} {x : Str} {sp : Sp} {s₁ : Shared} {vs : List Value} {ns : List Int}
    (atK : K.In s₁.heap) (glob : s₁.heap.Ns mainGlobals mg) (blt : s₁.heap.Ns builtinsNs mb) (boot : ∀ x : Str, x ≠ "__name__" → mb x = bootBuiltins x) (lim : s₁.heap.NoLimit) (gens : s₁.gens = #[])
    (ob : s₁.heap.get? a = some { cls := .type "list", data := .seq vs.toArray }) (nums : IntsAre vs ns) (len : ns.length ≤ sizeLine) (room : Room n callerA)
    (F : ∀ base : Heap, K.In base → base.Ns mainGlobals mg → FnG P w K mg base CT n fa fd [x] sp) (bi : ∀ (s : Shared) (u : Value), BindsTo s fd ⟨[u], []⟩ [(x, u)])
    (ho : ∀ H : Hp, Only H → SqL K H a (ns.map V.int) → sp [.ref a] H (fun v _ => v = .bl true) fun _ _ _ => False)
    (none_out : ∀ H e s', CT [] H s₁ (fun _ _ _ => False) e s' → False) :
    codeAny (model P w) callerA (.call (.ref fa) ⟨[.ref a], []⟩) (fun r s' => r = .ok (.ret (.bool true)) ∧ OldK s₁.heap s'.heap ∧ s'.os = s₁.os ∧ AllBare s'.gens) s₁ := by
  have main : ∀ H : Hp, Only H → SqL K H a (ns.map V.int) → HOk P w H s₁.heap → (∀ b, b ≠ a → H b = none) → (K.lookup a = none ∨ H a = none) →
      codeAny (model P w) callerA (.call (.ref fa) ⟨[.ref a], []⟩) (fun r s' => r = .ok (.ret (.bool true)) ∧ OldK s₁.heap s'.heap ∧ s'.os = s₁.os ∧ AllBare s'.gens) s₁ := by
    intro H only sq hok off at_
    have free : ∀ (b : Addr) (o : Obj) (es : Array DictEntry) (ep : Nat), s₁.heap.get? b = some o → o.data = .dict es ep → H b = none := by
      intro b o es ep e d
      by_cases hb : b = a
      · rw [hb, ob] at e
        cases e
        cases d
      · exact off b hb
    have inB : K.In (hidT s₁.heap H) := by
      intro b o e
      refine hidT_get (atK b o e) ?_
      by_cases hb : b = a
      · rcases at_ with z | z
        · rw [hb, z] at e
          cases e
        · rw [hb]
          exact z
      · exact off b hb
    have nsB : (hidT s₁.heap H).Ns mainGlobals mg := hidT_ns glob (free _)
    obtain ⟨mc, l1, l2⟩ := lim
    have mod : L2.Mod K mg (hidT s₁.heap H) := ⟨inB, nsB, ⟨mb, hidT_ns blt (free _), boot⟩, ⟨mc, hidT_ns l1 (free _), l2⟩⟩
    have en : Env0 P w K mg (hidT s₁.heap H) callerA [] s₁ H :=
      ⟨rfl, mod, fun b o z => of_hidT z, Nat.le_of_eq (hidT_size _ _), trivial, fun b z => (List.not_mem_nil z).elim, hok, .of_eq gens⟩
    refine codeAny_mono ((F _ inB nsB).goes callerA [] s₁ H ⟨[.ref a], []⟩ [.ref a] [.ref a] _ _ room rfl en (bi s₁ (.ref a)) (.cons rfl .nil) (ho H only sq)) ?_
    intro r s' z
    match r, z with
    | .error er, z => exact (none_out H er s' z).elim
    | .ok (.ret u), z =>
      obtain ⟨v, G, os, bare, un, hok', rel, rfl⟩ := z
      cases rel
      refine ⟨rfl, OldK.of_keep fun b o e => ?_, os, bare⟩
      rcases only b with q | ⟨ob2, ys, q⟩
      · exact un.keep b o e q (fun z => List.not_mem_nil z) (fun z => List.not_mem_nil z)
      · have e1 := (hok b _ q).1
        have e2 := (hok' b _ (un.frzs b ob2 _ q)).1
        rw [e] at e1
        cases e1
        exact e2
  cases there : K.lookup a with
  | some o =>
    have e := (atK a o there).symm.trans ob
    cases e
    exact main (fun _ => none) (fun _ => .inl rfl) (.inr ⟨_, vs.toArray, _, there, rfl, rfl, rfl, by rw [List.size_toArray, nums.length]; exact len, by simpa using vals_ints nums⟩) (fun b u z => nomatch z) (fun _ _ => rfl) (.inr rfl)
  | none =>
    refine main (upd (fun _ => none) a (.frz { cls := .type "list", data := .seq vs.toArray } (.lst (ns.map V.int)))) (fun b => ?_) (.inl (.inr ⟨_, upd_same⟩)) (fun b u z => ?_) (fun b hb => upd_ne hb) (.inl there)
    · by_cases hb : b = a
      · rw [hb]
        exact .inr ⟨_, _, upd_same⟩
      · exact .inl (upd_ne hb)
    · by_cases hb : b = a
      · rw [hb, upd_same] at z
        cases z
        rw [hb]
        exact ⟨ob, by rw [List.length_map]; exact len, vs, _, vals_ints nums, ob⟩
      · rw [upd_ne hb] at z
        cases z
theorem walkG {l : PySem.W.OpenLaw} {m n : Nat} {q : Program} {loose : List Str} {XP : (Str → Option Value) → Heap → Prop} {YP : World → Heap → Prop} {d : DefRec} {K : Params → PySem.W.Frag} {CT : World → CXT} {sp : World → Sp} {x : Str}
    (most : l.most = some m) (fits : m ≤ sizeLine) (nodef : d.params.defaults = []) (room : Room n callerA) (inn : ∀ (w : World) (h : Heap), YP w h → (K w.params).In h)
    (F : ∀ (w : World) (mg : Str → Option Value) (fa : Addr) (h : Heap), (K w.params).In h → h.Ns mainGlobals mg → mg d.name = some (.ref fa) →
      ∃ fd : FuncData, (∀ (s : Shared) (u : Value), BindsTo s fd ⟨[u], []⟩ [(x, u)]) ∧ ∀ base : Heap, (K w.params).In base → base.Ns mainGlobals mg → FnG l.prog w (K w.params) mg base (CT w) n fa fd [x] (sp w))
    (ho : ∀ (w : World) (H : Hp) (a : Addr) (ns : List Int), ns.length ≤ m → Only H → SqL (K w.params) H a (ns.map V.int) → sp w [.ref a] H (fun v _ => v = .bl true) fun _ _ _ => False)
    (none_out : ∀ (w : World) (H : Hp) (s : Shared) (e : Value) (s' : Shared), CT w [] H s (fun _ _ _ => False) e s' → False) :
    PySem.W.WalkO q loose XP YP l.row.toRowW d [] (fun f vs => PySem.call f vs) := by
  refine Att.attach_call most nodef ?_
  intro w s₀ s₁ mg mb fa o pm cd doc a vs ns G Y _ _ _ isAt ob nums len gens
  obtain ⟨fd, bi, good⟩ := F w mg fa _ (inn w _ Y) G.T.g isAt
  exact lawG_call (inn w _ Y) G.T.g G.T.b G.T.builtins G.T.nolimit gens ob nums (Nat.le_trans len fits) room good bi (fun H h1 h2 => ho w H a ns len h1 h2) fun H e s' => none_out w H s₁ e s'
end PSG

set_option Elab.async false
set_option linter.all false
set_option maxRecDepth 100000
set_option maxHeartbeats 4000000
namespace PSG
open PySem PySem.Spec L2
open PyProof.Rows (IntsAre AllBare)
/-! ### try with several clauses, names or pairs of names as their classes, with or without «as» -/
theorem upToSlots_more {h h' : Heap} (k : ∀ q o, h.get? q = some o → h'.get? q = some o) : h.UpToSlots h' := fun b o e _ => ⟨o.slots, k b o e⟩
theorem flying_more {base h h' : Heap} {l : List Env} {e : Addr} {Z : Obj → Prop} (x : PySem.HandSPX.FlyingZ base l e Z h) (k : ∀ q o, h.get? q = some o → h'.get? q = some o) : PySem.HandSPX.FlyingZ base l e Z h' := by
  obtain ⟨st, nb, ff, oe, vs, T, oT, ts, he, z, hv, h1, hT, ne, gT, hts, h3⟩ := x
  exact ⟨fun b o q => k b o (st b o q), nb, ff.of_keeps fun b o q _ => ⟨o, k b o q, rfl⟩, oe, vs, T, oT, ts, k _ _ he, z, hv, h1, hT, ne, k _ _ gT, hts, h3⟩
/-- the test of a clause: ok tells of which classes it is answered how -/
def Asks (X : Cx) (t : Expr) (ok : Value → Bool → Prop) : Prop :=
  ∀ (a : Addr) (oe : Obj) (cls : Value) (d : Option Addr) (pn pins : List (Addr × Obj)) (σ : L2.St) (H : Hp) (s : Shared) (Q : Value → Shared → Prop) (E : Value → Shared → Prop) (b : Bool),
    Zc cls d oe → (∃ vs, oe.data = .fields vs) → Inv (X.suite a ((a, oe) :: pn)) pins σ H s → ok cls b →
    (∀ c h' tk, (∀ q o, s.heap.get? q = some o → h'.get? q = some o) → PySem.W.Looks (model X.prog X.w) h' (excMatches (.ref a) c) b → Q c { s with heap := h', toks := tk }) →
    wpAny (model X.prog X.w) (X.A.mark (some (.ref a))) (eval t X.env) Q E s
section
variable {X : Cx}
theorem name_is {x : Str} {c : Value} {np : Pos} (hc : Names X x c) {a : Addr} {pn pins : List (Addr × Obj)} {σ : L2.St} {H : Hp} {s : Shared} {Q : Value → Shared → Prop} {E : Value → Shared → Prop}
    (I : Inv (X.suite a pn) pins σ H s) (q : Q c s) : wpAny (model X.prog X.w) (X.A.mark (some (.ref a))) (eval (.Name x np) X.env) Q E s := by
  obtain ⟨g, nd, m | ⟨m, v, nn⟩⟩ := hc
  · exact ld_glob (X := X.suite a pn) I g m q nd
  · exact ld_blt (X := X.suite a pn) I g m v q nn nd
theorem exc_class {a : Addr} {oe : Obj} {cls : Value} {d : Option Addr} {pn pins : List (Addr × Obj)} {σ : L2.St} {H : Hp} {s : Shared} (z : Zc cls d oe) (I : Inv (X.suite a ((a, oe) :: pn)) pins σ H s) :
    PySem.W.Looks (model X.prog X.w) s.heap (typeOf (.ref a)) cls := fun A Q E s1 k q =>
  wpAny_typeOf_ref (k _ _ (I.pin (a, oe) (List.mem_append_left _ List.mem_cons_self)).1) (by rw [z.1]; exact q)
theorem asks_one {x : Str} {c : Value} {np : Pos} (hc : Names X x c) : Asks X (.Name x np) fun cls b => PySem.W.exmOne X.K cls c = some b := by
  intro a oe cls d pn pins σ H s Q E b z f I e q
  exact name_is hc I (q c s.heap s.toks (fun _ _ z => z) (PySem.W.exm_one (M := model X.prog X.w) I.kIn (exc_class z I) e))
theorem asks_two {x y : Str} {c e : Value} {p1 p2 tp : Pos} {kk : Nat} (hc : Names X x c) (he : Names X y e) : Asks X (.Tuple [.Name x p1, .Name y p2] kk tp) fun cls b => PySem.W.exmAny X.K cls [c, e] = some b := by
  intro a oe cls d pn pins σ H s Q E b z f I ok q
  refine wpAny_Tuple (wpAny_items_cons (name_is hc I (wpAny_items_cons (name_is he I (wpAny_items_nil ⟨by size_fits, ?_⟩)))))
  have more : ∀ q o, s.heap.get? q = some o → (s.heap.push { cls := .type "tuple", data := .seq [c, e].toArray }).get? q = some o := fun _ _ z => Heap.get?_push_of_some _ z
  exact q (.ref s.heap.objs.size) _ s.toks more (PySem.W.exm_tup2 (I.kIn.keeps more) ((exc_class z I).keeps more) (Heap.get?_push_size s.heap rfl) ok)
end
abbrev Cl := (Value → Bool → Prop) × Option Nat × (Addr → Value → Option Addr → TS)
def endsOf (n : Option Nat) (D : Ends) : Ends := match n with
  | none => D
  | some i => { nx := fun σ G => D.nx (σ.set i none) G, rt := D.rt, bk := fun σ G => D.bk (σ.set i none) G, ct := fun σ G => D.ct (σ.set i none) G }
def slotOf (n : Option Nat) (a : Addr) (σ : L2.St) : L2.St := match n with
  | none => σ
  | some i => σ.set i (some (.ref a))
/-- what the clauses wish of an exception of the body -/
def wCl (out : WX) (D : Ends) : List Cl → WX
  | [] => out
  | (ok, n, ts) :: r => fun cls d σ H => ∃ b, ok cls b ∧ (b = true → ∀ a, H a = none → ts a cls d (endsOf n D) (slotOf n a σ) H) ∧ (b = false → wCl out D r cls d σ H)
def SuiteOk (X : Cx) (body : List Stmt) (ts : Addr → Value → Option Addr → TS) : Prop :=
  ∀ (a : Addr) (oe : Obj) (cls : Value) (d : Option Addr) (pn : List (Addr × Obj)), Zc cls d oe → (∃ vs, oe.data = .fields vs) → PSs (X.suite a ((a, oe) :: pn)) body (ts a cls d)
inductive ClOk (X : Cx) : List ExceptHandler → List Cl → Prop
  | nil : ClOk X [] []
  | plain {t : Expr} {ok : Value → Bool → Prop} {ts : Addr → Value → Option Addr → TS} {b₀ : Stmt} {suite : List Stmt} {pos : Pos} {hs : List ExceptHandler} {l : List Cl} :
      Asks X t ok → SuiteOk X (b₀ :: suite) ts → ClOk X hs l → ClOk X (.ExceptHandler (some t) none (b₀ :: suite) pos :: hs) ((ok, none, ts) :: l)
  | named {t : Expr} {ok : Value → Bool → Prop} {i : Nat} {n : Str} {ts : Addr → Value → Option Addr → TS} {b₀ : Stmt} {suite : List Stmt} {pos : Pos} {hs : List ExceptHandler} {l : List Cl} :
      X.N.Nodup → X.N[i]? = some n → X.env.kindOf n = some .local → Asks X t ok → SuiteOk X (b₀ :: suite) ts → ClOk X hs l → ClOk X (.ExceptHandler (some t) (some n) (b₀ :: suite) pos :: hs) ((ok, some i, ts) :: l)
section
variable {X : Cx} {pins : List (Addr × Obj)} {D : Ends} {out : WX}
theorem clauses (ok : X.Ok) (one : X.stack = X.env :: X.outer) (own : X.env.frame = some X.env.locals) (tk : Takes X out) {a : Addr} {B : Heap} {sI : Shared} {σ : L2.St} {H : Hp} {cls : Value} {d : Option Addr}
    (J : Inv X pins σ H sI) (nb : ∀ b o, sI.heap.get? b = some o → b ∉ frs X.stack → B.get? b = some o) (na : H a = none) :
    ∀ {hs : List ExceptHandler} {l : List Cl}, ClOk X hs l → wCl out D l cls d σ H → ∀ s3 : Shared, PySem.HandSPX.FlyingZ B (X.env :: X.outer) a (Zc cls d) s3.heap → sI.heap.UpToSlots s3.heap → s3.os = sI.os → AllBare s3.gens →
      wpAny (model X.prog X.w) X.A (handleBy (.ref a) X.env hs) (SP X pins D) X.xe s3 := by
  intro hs l cl
  -- the exception's object, apart from all frames
  have apart : ∀ {h : Heap}, PySem.HandSPX.FlyingZ B (X.env :: X.outer) a (Zc cls d) h → ∃ oe vs, h.get? a = some oe ∧ Zc cls d oe ∧ oe.data = .fields vs ∧ a ≠ X.env.locals ∧ a ∉ X.fs := by
    intro h fl
    obtain ⟨oe, vs, e, z, dd⟩ := fl.there
    have no : a ∉ frs (X.env :: X.outer) := fun m => by
      obtain ⟨_, o2, e2, nf⟩ := fl.2.2.1.mem m
      rw [e] at e2
      cases e2
      exact nf _ dd
    refine ⟨oe, vs, e, z, dd, fun q => no ?_, fun m => no ?_⟩
    · exact List.mem_filterMap.mpr ⟨X.env, List.mem_cons_self, by rw [own, q]⟩
    · obtain ⟨en, h1, h2⟩ := List.mem_filterMap.mp m
      exact List.mem_filterMap.mpr ⟨en, List.mem_cons_of_mem _ h1, h2⟩
  have landed : ∀ {s3 : Shared}, PySem.HandSPX.FlyingZ B (X.env :: X.outer) a (Zc cls d) s3.heap → sI.heap.UpToSlots s3.heap → s3.os = sI.os → AllBare s3.gens → Inv X pins σ H s3 :=
    fun fl up os ag => J.landed nb fl.1 up os ag
  -- a suite that runs, from the state behind a test that is answered with yes
  have run : ∀ {b₀ : Stmt} {body : List Stmt} {ts : Addr → Value → Option Addr → TS} {σ2 : L2.St} {D2 : Ends} {s4 : Shared} {R : Flow → Shared → Prop} {E : Value → Shared → Prop} {oe : Obj}, SuiteOk X (b₀ :: body) ts →
      Zc cls d oe → (∃ vs, oe.data = .fields vs) → Inv (X.suite a ((a, oe) :: (X.pn ++ pins))) [] σ2 H s4 → ts a cls d D2 σ2 H →
      (∀ f s5, SP (X.suite a ((a, oe) :: (X.pn ++ pins))) [] D2 f s5 → R f s5) → wpAny (model X.prog X.w) (X.A.mark (some (.ref a))) (execs (b₀ :: body) X.env) R E s4 := by
    intro b₀ body ts σ2 D2 s4 R E oe su z f S ho hq
    exact wpAny_mono ((su a oe cls d (X.pn ++ pins) z f).run [] s4 σ2 H D2 S ho) hq fun _ _ z => z.elim
  induction cl with
  | nil =>
    intro w s3 fl up os ag
    refine wpAny_handleBy_nil ?_
    obtain ⟨_, _, _, oe, vs, T, oT, ts, e, _, dd, h1, _⟩ := id fl
    unfold PySem.passOn
    refine wpAny_bind (wpAny_field e dd h1 ?_)
    rw [if_neg (by simp)]
    have last : wpAny (model X.prog X.w) X.A (setFlight (.ref a) X.env.frame) (fun _ s4 => wpAny (model X.prog X.w) X.A (throw (.ref a) : Sem Flow) (SP X pins D) X.xe s4) X.xe s3 := by
      rw [own]
      refine PySem.HandSPX.setFlight_upZ fl fun h4 f4 u4 => wpAny_throw (tk _ _ ⟨a, B, sI, pins, σ, H, cls, d, rfl, J, nb, up.trans u4, .inr (.inr (by rw [one]; exact f4)), na, os, ag, w⟩)
    first
      | exact wpAny_bind last
      | exact wpAny_bind (wpAny_pure (wpAny_bind last))
  | @plain t okc ts b₀ suite pos hs l ask su _ ih =>
    intro w s3 fl up os ag
    obtain ⟨b, hb, yes, no⟩ := w
    obtain ⟨oe, vs, e, z, dd, nL, nF⟩ := apart fl
    have S := (landed fl up os ag).suite e dd na nL nF
    refine PySem.W.exc_clause (ask a oe cls d (X.pn ++ pins) [] σ H s3 _ _ b z ⟨_, dd⟩ S hb fun c h4 t4 k4 lk => ⟨b, lk, ?_⟩)
    have fl4 := flying_more fl k4
    have up4 := up.trans (upToSlots_more k4)
    cases b with
    | false => exact ih (no rfl) { s3 with heap := h4, toks := t4 } fl4 up4 os ag
    | true =>
      rw [if_pos rfl]
      refine PySem.HandSPX.lands_againZ (s := { s3 with heap := h4, toks := t4 }) fl4 fun h5 fl5 up5 => ?_
      obtain ⟨oe5, vs5, e5, z5, dd5, nL5, nF5⟩ := apart fl5
      have S5 := (landed (s3 := { s3 with heap := h5, toks := t4 }) fl5 (up4.trans up5) os ag).suite e5 dd5 na nL5 nF5
      refine run su z5 ⟨_, dd5⟩ S5 (yes rfl a na) fun f s6 hs6 => ?_
      cases f with
      | next => obtain ⟨σ6, H6, S6, q⟩ := hs6; exact ⟨σ6, H6, S6.unsuite ok, q⟩
      | brk => obtain ⟨σ6, H6, S6, q⟩ := hs6; exact ⟨σ6, H6, S6.unsuite ok, q⟩
      | cont => obtain ⟨σ6, H6, S6, q⟩ := hs6; exact ⟨σ6, H6, S6.unsuite ok, q⟩
      | ret u => obtain ⟨v, σ6, H6, S6, r, q⟩ := hs6; exact ⟨v, σ6, H6, S6.unsuite ok, r, q⟩
  | @named t okc i n ts b₀ suite pos hs l nd hi loc ask su _ ih =>
    intro w s3 fl up os ag
    obtain ⟨b, hb, yes, no⟩ := w
    obtain ⟨oe, vs, e, z, dd, nL, nF⟩ := apart fl
    have S := (landed fl up os ag).suite e dd na nL nF
    refine PySem.W.exc_clause_as (ask a oe cls d (X.pn ++ pins) [] σ H s3 _ _ b z ⟨_, dd⟩ S hb fun c h4 t4 k4 lk => ⟨b, lk, ?_⟩)
    have fl4 := flying_more fl k4
    have up4 := up.trans (upToSlots_more k4)
    cases b with
    | false => exact ih (no rfl) { s3 with heap := h4, toks := t4 } fl4 up4 os ag
    | true =>
      rw [if_pos rfl]
      refine PySem.HandSPX.lands_againZ (s := { s3 with heap := h4, toks := t4 }) fl4 fun h5 fl5 up5 => ?_
      obtain ⟨oe5, vs5, e5, z5, dd5, nL5, nF5⟩ := apart fl5
      have S5 := (landed (s3 := { s3 with heap := h5, toks := t4 }) fl5 (up4.trans up5) os ag).suite e5 dd5 na nL5 nF5
      refine store_ok (X := X.suite a ((a, oe5) :: (X.pn ++ pins))) (v := .ref a) S5 nd hi (.inl loc) rfl (fun s6 S6 => ?_) (.inr loc)
      refine run su z5 ⟨_, dd5⟩ S6 (yes rfl a na) fun f s7 hs7 => ?_
      cases f with
      | next => obtain ⟨σ7, H7, S7, q⟩ := hs7; exact gone_ok (S7.unsuite ok) nd hi loc fun s8 J8 => ⟨_, H7, J8, q⟩
      | brk => obtain ⟨σ7, H7, S7, q⟩ := hs7; exact gone_ok (S7.unsuite ok) nd hi loc fun s8 J8 => ⟨_, H7, J8, q⟩
      | cont => obtain ⟨σ7, H7, S7, q⟩ := hs7; exact gone_ok (S7.unsuite ok) nd hi loc fun s8 J8 => ⟨_, H7, J8, q⟩
      | ret u => obtain ⟨v, σ7, H7, S7, r, q⟩ := hs7; exact gone_ok (S7.unsuite ok) nd hi loc fun s8 J8 => ⟨v, _, H7, J8, r, q⟩
theorem ps_tryCl {body : List Stmt} {h₀ : ExceptHandler} {hs : List ExceptHandler} {l : List Cl} {pos : Pos} {tb : WX → TS} (one : X.stack = X.env :: X.outer) (own : X.env.frame = some X.env.locals) (tk : Takes X out)
    (der : ∀ (W : WX) (pn : List (Addr × Obj)) (xe : Value → Shared → Prop), Takes (X.tr pn xe) W → PassesOwn (model X.prog X.w) X.A X.env xe → PSs (X.tr pn xe) body (tb W)) (cl : ClOk X (h₀ :: hs) l) :
    PS X (.Try body (h₀ :: hs) [] [] pos) fun D σ H => tb (wCl out D l) D σ H where
  run := by
    intro pins s σ H D I ho
    have ok := I.ok
    have fr : X.A.frames = some (X.env :: X.outer) := ok.frames.trans (by rw [one])
    refine wpAny_Try_except (wpAny_mono ((der (wCl out D l) (X.pn ++ pins) _ ?_ PassesOwn.looking).run [] s σ H D (I.toTry _) ho) (fun f s1 hs1 => ?_) fun e s1 z => z)
    · intro u s2 xx
      obtain ⟨a, B, sI, pins2, σ2, H2, cls, d, rfl, J2, nb, up, sky, na, os, ag, w⟩ := xx
      have J : Inv X pins σ2 H2 sI := J2.ofTry ok
      have sky2 : Sky B (X.env :: X.outer) a (Zc cls d) X.env.locals s2.heap := by rw [← one]; exact sky
      exact Sky.land Zc.steady fr own sky2 fun h3 fl3 up3 => clauses ok one own tk J nb na cl w { s2 with heap := h3 } fl3 (up.trans up3) os ag
    · cases f with
      | next => obtain ⟨σ1, H1, J, q⟩ := hs1; exact wpAny_execs_nil ⟨σ1, H1, J.ofTry ok, q⟩
      | brk => obtain ⟨σ1, H1, J, q⟩ := hs1; exact ⟨σ1, H1, J.ofTry ok, q⟩
      | cont => obtain ⟨σ1, H1, J, q⟩ := hs1; exact ⟨σ1, H1, J.ofTry ok, q⟩
      | ret u => obtain ⟨v, σ1, H1, J, r, q⟩ := hs1; exact ⟨v, σ1, H1, J.ofTry ok, r, q⟩
end
end PSG

set_option Elab.async false
set_option linter.all false
set_option maxRecDepth 100000
set_option maxHeartbeats 4000000
namespace PySem.W
open PySem PySem.Spec PySem.Calls PyProof.Rows
/-! ### isinstance of an exception of an own class, with or without attributes -/
/-- what the class must say -/
structure XcC (K : Frag) (D : Addr) : Prop where
  get : findIn K (.ref D) "__getattribute__" = some (some (.builtin "BaseException.__getattribute__"))
  get2 : findIn K (.ref D) "__getattr__" = some none
  exc : subIn K (.ref D) (.type "BaseException") = some true
  dict : hasDictIn K D = true
  cls : findIn K (.ref D) "__class__" = some (some (.builtin "object.__class__"))
  desc : specialIn K (.builtin "object.__class__") "__get__" = some (some (.builtin "getset_descriptor.__get__"))
  data : takesIn K (.builtin "object.__class__") = some true
  obj : mroIn K D (.type "object") = some true
theorem XcC.there {K : Frag} {D : Addr} (T : XcC K D) : ∃ o cd, K.lookup D = some o ∧ o.data = .cls cd := by
  obtain ⟨c1, e, _⟩ := any_some T.dict
  unfold clsIn at e
  cases q : K.lookup D with
  | none =>
    rw [q] at e
    cases e
  | some o =>
    obtain ⟨oc, od, dt, sl⟩ := o
    cases dt <;> (rw [q] at e; first | exact ⟨_, _, rfl, rfl⟩ | cases e)
section
variable {prog : Program} {w : World} {A : Around} {E : Value → Shared → Prop} {s : Shared} {K : Frag} {x D : Addr} {ox : Obj} {od : Option Obj}
theorem XcC.asked {Q : Option Value → Shared → Prop} (T : XcC K D) (X : K.In s.heap) (I : InstAt s.heap x ox D od) (ho : Q (some (.ref D)) { s with toks := s.toks + 1 }) :
    wpAny (model prog w) A (getAttr? (.ref x) "__class__") Q E s := by
  have found : findObj K D od "__class__" = some (.bind (.builtin "getset_descriptor.__get__") (.builtin "object.__class__")) := by
    obtain ⟨cd, c, _⟩ := any_some T.dict
    unfold findObj
    simp [c, T.cls, T.desc, T.data]
  obtain ⟨hp, g, dr, t, os⟩ := s
  have k1 := I.type (M := model prog w)
  have k2 := looks_findIn (M := model prog w) X T.get
  have k3 := looks_findIn (M := model prog w) X T.get2
  have k4 := looks_find (M := model prog w) X I found
  have k5 : Looks (model prog w) hp (isInstance (.ref x) (.type "BaseException")) true := k1.andThen (looks_subIn X T.exc)
  have no : (onTheHeap (Value.ref D) && Value.builtin "BaseException.__getattribute__" == Value.builtin "object.__getattribute__") = false := by
    show (Value.builtin "BaseException.__getattribute__" == Value.builtin "object.__getattribute__") = false
    decide +kernel
  have no2 : (false && onTheHeap (Value.builtin "BaseException.__getattribute__")) = false := rfl
  unfold getAttr?
  unfold getAttrBy?
  unfold getAttrBy
  refine wpAny_bind (wpAny_mkText (wpAny_bind (wpAny_attempt (wpAny_holding (wpAny_bind (k1.at (wpAny_bind (k2.at ?_))))))))
  show wpAny _ _ (if (onTheHeap (Value.ref D) && Value.builtin "BaseException.__getattribute__" == Value.builtin "object.__getattribute__") = true then _ else _) _ _ _
  rw [no]
  rw [if_neg (by decide)]
  unfold getAttrByItsOwn
  unfold hookBefore
  refine wpAny_bind ?_
  rw [if_pos (show onTheHeap (.ref D) = true from rfl)]
  refine k3.at (wpAny_bind (wpAny_attempt (wpAny_holding ?_)))
  unfold callGetattribute
  rw [no2]
  rw [if_neg (by decide)]
  unfold boundAndCalled
  rw [F.excAttr_ValueError.ga.bind (.ref x)]
  refine wpAny_bind (wpAny_pure ?_)
  show wpAny _ _ (call (.builtin "BaseException.__getattribute__") [.ref x, .str "__class__" t]) _ _ _
  refine wpAny_call (codeAny_call_builtin F.excAttr_ValueError.ga.plain F.entry_bexc_ga (@check_slot (model prog w) _ _ ⟨hp, g, dr, t + 1, os⟩ "BaseException.__getattribute__" "BaseException" "__getattribute__" (.ref x) [.str "__class__" t] [] _
    (by decide +kernel) (by decide +kernel) k5 (F.args_bexc_ga (.ref x) (.str "__class__" t)) ?_))
  unfold Builtin.«object.__getattribute__»
  refine wpAny_bind (wpAny_of_eq (a := ((Value.ref x : Value), [Value.str "__class__" t])) (by first | rfl | (simp only [slotArgs]; rfl)) (wpAny_bind (wpAny_pure (wpAny_bind (k1.at (wpAny_bind (k4.at ?_)))))))
  show wpAny _ _ (holding [Value.builtin "object.__class__"] (call (.builtin "getset_descriptor.__get__") [.builtin "object.__class__", .ref x, .ref D]) >>= ret) _ _ _
  refine wpAny_bind (wpAny_holding (wpAny_call (class_get (s := ⟨hp, g, dr, t + 1, os⟩) X I T.obj (wpAny_pure ?_))))
  show wpAny _ _ (handedOut (.ref D)) _ _ _
  rw [handedOut_of (v := .ref D) rfl]
  first
    | exact wpAny_pure ho
    | exact wpAny_pure (wpAny_pure ho)
    | exact wpAny_pure (wpAny_bind (wpAny_pure (wpAny_pure ho)))
theorem XcC.kit (T : XcC K D) : KitX K (.ref x) (.ref D) (fun h => ∃ od, InstAt h x ox D od) where
  ty := fun _ _ _ ⟨_, I⟩ => I.type
  it := fun M h X _ => by
    obtain ⟨o, cd, q, dd⟩ := T.there
    intro A2 Q2 E2 s2 k ho
    unfold isType
    unfold loadHead
    exact wpAny_bind (wpAny_loadPart (k _ _ (X _ _ q)) (by rw [dd]; exact wpAny_pure ho))
  ne := fun h tp dd its n sl X at_ => by
    obtain ⟨o, cd, q, d2⟩ := T.there
    cases z : (Value.ref D == Value.ref tp) with
    | false => rfl
    | true =>
      have e : D = tp := Value.ref.inj (beq_iff_eq.mp z)
      rw [← e, X _ _ q] at at_
      cases at_
      cases d2
  ca := fun X ⟨_, I⟩ ho => T.asked X I ho
end
end PySem.W

set_option Elab.async false
set_option linter.all false
set_option maxRecDepth 100000
set_option maxHeartbeats 4000000
/-! ### exceptions of own classes over any built-in base, as values -/
namespace PySem.XV
open PySem PySem.Spec PySem.W PySem.Calls PySem.HandSPX
section
variable {prog : Program} {w : World} {A : Around} {E : Value → Shared → Prop} {R : Result → Shared → Prop} {h : Heap} {g : Array GenState} {d : Drawn} {t : Nat} {os : OsState}
variable {nm q : Str} {C N : Addr} {bs bm bmB : List Value} {hdct : Bool} {sn : List Str} {sub : List Value} {ab : Bool} {col : Option Bool} {dd : Option Addr} {k0 k1 k2 k3 k5 : Option Value} {B newId initId : String}
theorem new_checked {M : Model} (F : ExcBaseFacts B newId initId bmB) (same : ∀ X : String, bm.contains (.type X) = bmB.contains (.type X)) {kw : List (Str × Value)} {Q : Unit → Shared → Prop}
    (at_ : h.get? C = some (excClassObj nm q C N bs bm hdct sn sub ab col dd k0 k1 k2 k3 k5 newId)) (ho : Q () ⟨h, g, d, t, os⟩) : wpAny M A (checkBuiltinCall newId ⟨[.ref C], kw⟩) Q E ⟨h, g, d, t, os⟩ := by
  have cB : (Value.ref C :: bm).contains (.type B) = true := by rw [List.contains_cons, same, F.hasB, Bool.or_true]
  have s0 := F.noStar
  simp only [checkBuiltinCall, F.newKind, F.newSplit, F.newRow]
  repeat (first
    | refine wpAny_loadPart_at at_ ?_
    | (refine wpAny_isSubtype_exc at_ ?_; rw [cB])
    | refine wpAny_staticBase_exc at_ ?_
    | refine wpAny_madeBy_exc at_ ?_
    | simp only [bne_self_eq_false, Bool.false_eq_true, if_false]
    | wp_step)
  exact ho
theorem new_kw (F : ExcBaseFacts B newId initId bmB) (same : ∀ X : String, bm.contains (.type X) = bmB.contains (.type X)) {kw : List (Str × Value)}
    (at_ : h.get? C = some (excClassObj nm q C N bs bm hdct sn sub ab col dd k0 k1 k2 k3 k5 newId))
    (ho : R (.ok (.ret (.ref (h.objs.size + 1)))) ⟨(h.push { cls := .type "tuple", data := .seq #[] }).push { cls := .ref C, data := .fields #[.ref h.objs.size, .none, .none, .none, .bool false, .none] }, g, d, t, os⟩) :
    codeAny (model prog w) A (.builtin newId ⟨[.ref C], kw⟩) R ⟨h, g, d, t, os⟩ := by
  have e0 := F.ends
  have cB : (Value.ref C :: bm).contains (.type B) = true := by rw [List.contains_cons, same, F.hasB, Bool.or_true]
  have cA : (Value.ref C :: bm).contains (.type "AttributeError") = false := by rw [List.contains_cons, same, F.noAttr]; rfl
  have cN : (Value.ref C :: bm).contains (.type "NameError") = false := by rw [List.contains_cons, same, F.noName]; rfl
  refine codeAny_builtinAt F.entry ?_
  unfold Builtin.«BaseException.__new__»
  refine wpAt_bind ?_
  show wpAt _ _ _ (stack >>= _) _ _ _
  refine wpAt_bind (wpAt_stack fun p below => wpAt_of_wpAny ?_)
  wp_walk
  refine wpAt_of_wpAny ?_
  rw [F.owner]
  repeat (first
    | with_reducible refine wpAny_madeHere_exc F.canon at_ ?_
    | with_reducible refine wpAny_loadPart_at at_ ?_
    | (with_reducible refine wpAny_isSubtype_exc at_ ?_; first | rw [cB] | rw [cA] | rw [cN])
    | wp_step)
  show R _ _
  rw [Heap.size_push]
  exact ho
theorem made_kw (F : ExcBaseFacts B newId initId bmB) (same : ∀ X : String, bm.contains (.type X) = bmB.contains (.type X)) {kw : List (Str × Value)} {fI : Addr} {Q : Fin → Shared → Prop}
    (at_ : h.get? C = some (excClassObj nm q C N bs bm hdct sn sub ab col dd k0 k1 k2 k3 k5 newId))
    (hi : W.Looks (model prog w) h (typeLookup (.ref C) "__init__") (some (.ref fI))) (hb : ∀ self, W.Looks (model prog w) h (bindSpecial (.ref fI) self) (.ref fI, [self]))
    (ho : codeAny (model prog w) A (.call (.ref fI) ⟨[.ref (h.objs.size + 1)], kw⟩)
      (fun r s' => match r with | .ok (.ret v) => v = .none ∧ Q (.done (.ret (.ref (h.objs.size + 1)))) s' | .ok _ => False | .error e => E e s')
      ⟨(h.push (W.kdv_tup [])).push (excO C h.objs.size), g, d, t, os⟩) :
    wpAny (model prog w) A (Builtin.«type.__call__» ⟨[.ref C], kw⟩) Q E ⟨h, g, d, t, os⟩ := by
  repeat (first | with_reducible refine wpAny_loadPart_at at_ ?_ | with_reducible refine wpAny_madeBy_exc at_ ?_ | wp_step)
  refine codeAny_call_builtin_code (Code.quiet_builtin _ F.quiet) (new_checked F same at_ (new_kw F same at_ ?_))
  show wpAny _ _ _ _ _ _
  have old : ∀ b o, h.get? b = some o → ((h.push (W.kdv_tup [])).push (excO C h.objs.size)).get? b = some o := fun b o e => Heap.get?_push_of_some _ (Heap.get?_push_of_some _ e)
  have at2 := old _ _ at_
  have new : ((h.push (W.kdv_tup [])).push (excO C h.objs.size)).get? (h.objs.size + 1) = some (excO C h.objs.size) := by heap_get
  have cC : (Value.ref C :: bm).contains (.ref C) = true := by simp
  have i1 := hi.keeps old
  have b1 := (hb (.ref (h.objs.size + 1))).keeps old
  unfold isInstance
  repeat (first | with_reducible refine wpAny_loadPart_at new ?_ | (with_reducible refine wpAny_isSubtype_exc at2 ?_; rw [cC]) | wp_step)
  show wpAny _ _ (typeLookup (.ref C) _) _ _ _
  refine i1.at (wpAny_holding (wpAny_bind (b1.at (wpAny_bind (wpAny_call (codeAny_mono ho fun r s' z => ?_))))))
  rcases r with e | (v | _ | _ | _) <;> first | exact z | exact z.elim | skip
  obtain ⟨rfl, z⟩ := z
  first
    | exact wpAny_pure (wpAny_pure z)
    | (wp_walk; exact z)
theorem call_kw (F : ExcBaseFacts B newId initId bmB) (same : ∀ X : String, bm.contains (.type X) = bmB.contains (.type X)) {kw : List (Str × Value)} {fI : Addr}
    (at_ : h.get? C = some (excClassObj nm q C N bs bm hdct sn sub ab col dd k0 k1 k2 k3 k5 newId))
    (hi : W.Looks (model prog w) h (typeLookup (.ref C) "__init__") (some (.ref fI))) (hb : ∀ self, W.Looks (model prog w) h (bindSpecial (.ref fI) self) (.ref fI, [self]))
    (ho : codeAny (model prog w) (A.under (.builtin "type.__call__" ⟨[.ref C], kw⟩)) (.call (.ref fI) ⟨[.ref (h.objs.size + 1)], kw⟩) (W.InitBack (h.objs.size + 1) R)
      ⟨(h.push (W.kdv_tup [])).push (excO C h.objs.size), g, d, t, os⟩) :
    codeAny (model prog w) A (.call (.ref C) ⟨[], kw⟩) R ⟨h, g, d, t, os⟩ := by
  have f1 := tc_lookup
  have f2 := tc_bind (.ref C)
  have isT : (⟨h, g, d, t, os⟩ : Shared).TypeIs (.ref C) "type" := ⟨_, at_, rfl⟩
  refine codeAny_of_tree ?_
  show wpAny _ _ (callAny (.ref C) _) _ _ _
  repeat (any_goals (first | assumption | with_reducible refine wpAny_loadPart_at at_ ?_ | wp_step))
  refine ⟨rfl, codeAny_call_builtin_at (Code.quiet_builtin _ (by decide +kernel)) entry_typeCall (wpAny_check_type_call_sub at_ (made_kw F same at_ hi hb (codeAny_mono ho fun r s' z => ?_)))⟩
  rcases r with e | (v | _ | _ | _) <;> exact z
end
end PySem.XV

set_option Elab.async false
set_option linter.all false
set_option maxRecDepth 100000
set_option maxHeartbeats 4000000
namespace PSG
open PySem PySem.Spec L2
open PyProof.Rows (IntsAre AllBare)
/-- what the written part says of an own exception class at C, whose __init__ is the def at fI -/
structure Xk (K : PySem.W.Frag) (C fI : Addr) (B newId initId : String) (bmB : List Value) : Prop where
  fb : ExcBaseFacts B newId initId bmB
  sf : StoreFacts B bmB "object.__setattr__" "object"
  made : PySem.W.excInitIn K C bmB newId = true
  over : PySem.W.excOver K C bmB = true
  dict : PySem.W.hasDictIn K C = true
  set : PySem.W.findIn K (.ref C) "__setattr__" = some (some (.builtin "object.__setattr__"))
  init : PySem.W.findIn K (.ref C) "__init__" = some (some (.ref fI))
  fn : PySem.W.typeIn K (.ref fI) = some (.type "function")
  keep : PySem.W.keepIn K (.ref C) = true
  exc : PySem.W.subIn K (.ref C) (.type "BaseException") = some true
  ty : PySem.W.typeIn K (.ref C) = some (.type "type")
/-- at a: an exception of the class at C with these attributes (the last one stored first) -/
def ExV (H : Hp) (a C : Addr) (fs : List (Str × V)) : Prop :=
  (fs = [] ∧ H a = some (exo a C none)) ∨ ∃ d, fs ≠ [] ∧ H a = some (exo a C (some d)) ∧ H d = some (exd d fs)
theorem ExV.same {H H' : Hp} {a C : Addr} {fs : List (Str × V)} (x : ExV H a C fs) (s : Same H H') : ExV H' a C fs := by
  rcases x with ⟨e, h⟩ | ⟨d, e, h, h2⟩
  · exact .inl ⟨e, s _ _ h⟩
  · exact .inr ⟨d, e, s _ _ h, s _ _ h2⟩
end PSG
namespace PySem.XV
open PySem PySem.Spec PySem.W PySem.Calls PySem.HandSPX Builtin Builtin.ObjectAttr
section
variable {prog : Program} {w : World} {A : Around} {E : Value → Shared → Prop} {R : Result → Shared → Prop} {hp : Heap} {g : Array GenState} {d : Drawn} {t : Nat} {os : OsState}
/-- self.name = v, the first one -/
theorem store_first {K : W.Frag} {B : String} {bmB : List Value} {name : Str} {tk : Tok} {v : Value} {x C : Addr} {fv : Array Value} (SF : StoreFacts B bmB "object.__setattr__" "object") (ov : excOver K C bmB = true) (hd : hasDictIn K C = true)
    (X : K.In hp) (hx : hp.get? x = some { cls := .ref C, data := .fields fv }) (ha : W.findIn K (.ref C) name = some none)
    (hq : ∀ h' tk' dx, (∀ b o, b ≠ x → hp.get? b = some o → h'.get? b = some o) → hp.objs.size ≤ dx → dx ≠ x → h'.get? x = some { cls := .ref C, dict := some dx, data := .fields fv } →
      h'.Ns1 dx (fun y => if y = name then some v else none) → R (.ok (.ret .none)) ⟨h', g, d, tk', os⟩) :
    codeAny (model prog w) A (.call (.builtin "object.__setattr__") ⟨[.ref x, .str name tk, v], []⟩) R ⟨hp, g, d, t, os⟩ := by
  have I : W.InstAt hp x { cls := .ref C, data := .fields fv } C none := ⟨hx, rfl, rfl, trivial⟩
  have ne : x ≠ hp.objs.size := Nat.ne_of_lt (Heap.lt_size hx)
  have tak : takerIn K C name = some none := by unfold takerIn; rw [ha]; rfl
  obtain ⟨cd, hcd, hh⟩ := any_some hd
  refine osa_openX SF X I ov tak fun b => ?_
  have lc : W.Looks (model prog w) hp (classData C) cd := W.looks_clsIn X hcd
  obtain ⟨nm, bs, mro, ns, qn, hdd, sn, sb, ab, col, del⟩ := cd
  dsimp only at hh
  subst hh
  show wpAny _ _ (storeInOwnDict (.ref x) (.ref C) (.str name tk) name v b) _ _ _
  unfold storeInOwnDict
  unfold ownDictForStores
  repeat (first
    | with_reducible refine store_in_new ?_ ?_
    | with_reducible refine wpAny_loadPart_at hx ?_
    | with_reducible refine lc.at ?_
    | wp_step)
  · exact ⟨_, #[], _, (Heap.get?_update_ne _ _ _ _ ne.symm).trans (Heap.get?_push_at rfl rfl), rfl, fun e he => absurd he (by simp), fun _ => rfl⟩
  · intro h' tk' hn' hs
    have hx1 : (hp.push { cls := .type "dict", data := .dict #[] }).get? x = some { cls := .ref C, data := .fields fv } := Heap.get?_push_of_some _ hx
    refine hq h' tk' hp.objs.size (fun c o hc ho => ?_) (Nat.le_refl _) ne.symm ((hs.2 x ne).trans (Heap.get?_update_self _ hx1 rfl)) hn'
    exact (hs.2 c (Nat.ne_of_lt (Heap.lt_size ho))).trans ((Heap.get?_update_ne _ _ _ _ hc).trans (Heap.get?_push_of_some _ ho))
/-- self.name = v, a further one -/
theorem store_next {K : W.Frag} {B : String} {bmB : List Value} {name : Str} {tk : Tok} {v : Value} {x C dx : Addr} {fv : Array Value} {m0 : Str → Option Value} {nl : List Str} (SF : StoreFacts B bmB "object.__setattr__" "object") (ov : excOver K C bmB = true) (hd : hasDictIn K C = true)
    (X : K.In hp) (hx : hp.get? x = some { cls := .ref C, dict := some dx, data := .fields fv }) (hns : hp.Ns1 dx m0) (hw : Within m0 nl) (hz : nl.length ≤ 1000) (ha : W.findIn K (.ref C) name = some none)
    (hq : ∀ h' tk', (∀ b o, b ≠ dx → hp.get? b = some o → h'.get? b = some o) → h'.Ns1 dx (fun y => if y = name then some v else m0 y) → R (.ok (.ret .none)) ⟨h', g, d, tk', os⟩) :
    codeAny (model prog w) A (.call (.builtin "object.__setattr__") ⟨[.ref x, .str name tk, v], []⟩) R ⟨hp, g, d, t, os⟩ := by
  obtain ⟨oD, _, _, hoD, _, _⟩ := hns.count hw
  have I : W.InstAt hp x { cls := .ref C, dict := some dx, data := .fields fv } C (some oD) := ⟨hx, rfl, rfl, hoD⟩
  have tak : takerIn K C name = some none := by unfold takerIn; rw [ha]; rfl
  obtain ⟨cd, hcd, hh⟩ := any_some hd
  refine osa_openX SF X I ov tak fun b => ?_
  have lc : W.Looks (model prog w) hp (classData C) cd := W.looks_clsIn X hcd
  obtain ⟨nm, bs, mro, ns, qn, hdd, sn, sb, ab, col, del⟩ := cd
  dsimp only at hh
  subst hh
  show wpAny _ _ (storeInOwnDict (.ref x) (.ref C) (.str name tk) name v b) _ _ _
  unfold storeInOwnDict
  unfold ownDictForStores
  repeat (first
    | with_reducible refine PySem.OEX.store_in_old hns hw hz ?_
    | with_reducible refine wpAny_loadPart_at hx ?_
    | with_reducible refine lc.at ?_
    | wp_step)
  exact fun h' tk' hn' hs => hq h' tk' (fun c o hc ho => (hs.2 c hc).trans ho) hn'
end
end PySem.XV
namespace PSG
open PySem PySem.Spec L2
open PyProof.Rows (IntsAre AllBare)
section
variable {X : Cx} {pins : List (Addr × Obj)} {σ : L2.St} {H : Hp} {s : Shared} {a C fI dx : Addr} {f : Str} {y : V} {u : Value} {fs : List (Str × V)} {Q : Unit → Shared → Prop} {E : Value → Shared → Prop} {A : Around} {B newId initId : String} {bmB : List Value}
theorem xset_first (T : Xk X.K C fI B newId initId bmB) (I : Inv X pins σ H s) (e : H a = some (exo a C none)) (no : PySem.W.findIn X.K (.ref C) f = some none) (ry : RelV y u)
    (ho : ∀ dx s', H dx = none → dx ≠ a → Inv X pins σ (upd (upd H dx (exd dx [(f, y)])) a (exo a C (some dx))) s' → Q () s') : wpAny (model X.prog X.w) A (setAttr (.ref a) f u) Q E s := by
  obtain ⟨t1, ob⟩ := exo_at I.hok e
  obtain ⟨hp, g, d, t, os⟩ := s
  refine PySem.W.set_plain I.kIn (ox := { cls := .ref C, dict := none, data := .fields #[.ref t1, .none, .none, .none, .bool false, .none] }) (od := none) ⟨ob, rfl, rfl, trivial⟩ T.set ?_
  refine PySem.XV.store_first T.sf T.over T.dict I.kIn ob no fun h' tk' dx k dn dne hx hn => ?_
  have free : H dx = none := I.hok.fresh dn
  have old : ∀ {b : Addr} {o : Obj}, hp.get? b = some o → b ≠ dx := fun {b o} q => Nat.ne_of_lt (Nat.lt_of_lt_of_le (Heap.lt_size q) dn)
  have off : ∀ {b : Addr}, H b = none → b ≠ a := fun {b} n z => by
    rw [z, e] at n
    cases n
  refine ho dx _ free dne (I.un (t' := tk') ?_ fun b o q => ?_)
  · exact {
      keep := fun b o q n _ _ => k b o (off n) q
      slot := fun b o q n _ _ => ⟨o.slots, k b o (off n) q⟩
      free := fun b o q n _ => (upd_ne (off n)).trans ((upd_ne (old q)).trans n)
      there := fun b o q _ => if hb : b = a then ⟨_, hb ▸ hx⟩ else ⟨o, k b o hb q⟩
      tups := fun b xs q => (upd_ne (at_ne e q exo_tup)).trans ((upd_ne (ne_of_none q free)).trans q)
      frzs := fun b o v q => (upd_ne (at_ne e q exo_frz)).trans ((upd_ne (ne_of_none q free)).trans q)
      tbls := fun b ps q => ⟨#[], by rw [upd_ne (at_ne e q exo_tbl), upd_ne (ne_of_none q free), q]; simp⟩ }
  · by_cases hb : b = a
    · rw [hb, upd_same] at q
      cases q
      rw [hb]
      exact exo_ok hx
    · rw [upd_ne hb] at q
      by_cases hd : b = dx
      · rw [hd, upd_same] at q
        cases q
        rw [hd]
        exact exd_ok hn (relO_put (fs := []) ry fun _ => True.intro)
      · rw [upd_ne hd] at q
        refine (I.hok b o q).stay (fun c v hc z => k c v ?_ z) (fun c hc => ?_) fun c xs hc => ?_
        · rcases hc with hc | hc
          · rw [hc]
            exact hb
          · exact at_ne e hc exo_own
        · rw [upd_ne (at_ne e hc exo_own), upd_ne (ne_of_none hc free)]
          exact hc
        · rw [upd_ne (at_ne e hc exo_tup), upd_ne (ne_of_none hc free)]
          exact hc
theorem xset_next (T : Xk X.K C fI B newId initId bmB) (I : Inv X pins σ H s) (e : H a = some (exo a C (some dx))) (ed : H dx = some (exd dx fs)) (hl : fs.length ≤ 900) (no : PySem.W.findIn X.K (.ref C) f = some none) (ry : RelV y u)
    (ho : ∀ s', Inv X pins σ (upd H dx (exd dx ((f, y) :: fs))) s' → Q () s') : wpAny (model X.prog X.w) A (setAttr (.ref a) f u) Q E s := by
  obtain ⟨t1, ob⟩ := exo_at I.hok e
  obtain ⟨mA, hns, rel⟩ := exd_at I.hok ed
  have hw := within_of rel
  obtain ⟨hp, g, d, t, os⟩ := s
  obtain ⟨oD, _, _, hoD, _, _⟩ := hns.count hw
  refine PySem.W.set_plain I.kIn (ox := { cls := .ref C, dict := some dx, data := .fields #[.ref t1, .none, .none, .none, .bool false, .none] }) (od := some oD) ⟨ob, rfl, rfl, hoD⟩ T.set ?_
  refine PySem.XV.store_next T.sf T.over T.dict I.kIn ob hns hw (by rw [List.length_map]; omega) no fun h' tk' k hn => ?_
  have hd : ∃ o, h'.get? dx = some o := by
    obtain ⟨o, _, _, e', _⟩ := hn
    exact ⟨o, e'⟩
  exact ho _ (I.write (t' := tk') (x := dx) (e := dx) (o := exd dx ((f, y) :: fs)) (by rw [ed]; exact True.intro) (.inl rfl) k hd (exd_ok hn (relO_put ry rel)))
end
/-- self.f = e in such an __init__ -/
def tXset (K : PySem.W.Frag) (f : Str) (to te : TE) : TS := fun D σ H => te σ H fun y H1 => to σ H1 fun x H2 => ∃ (a C fI : Addr) (B newId initId : String) (bmB : List Value), x = .ref a ∧ Xk K C fI B newId initId bmB ∧ PySem.W.findIn K (.ref C) f = some none ∧
  ((H2 a = some (exo a C none) ∧ ∀ dx, H2 dx = none → dx ≠ a → D.nx σ (upd (upd H2 dx (exd dx [(f, y)])) a (exo a C (some dx)))) ∨
    ∃ (dx : Addr) (fs : List (Str × V)), H2 a = some (exo a C (some dx)) ∧ H2 dx = some (exd dx fs) ∧ fs.length ≤ 900 ∧ D.nx σ (upd H2 dx (exd dx ((f, y) :: fs))))
section
variable {X : Cx} {o e : Expr} {to te : TE} {f : Str} {p' pos : Pos}
theorem ps_xset (ho : PE X o to) (he : PE X e te) (hs : swapsWith e (some (.Attribute o f p')) pos.line X.env = pure false := by rfl) : PS X (.Assign [.Attribute o f p'] e pos) (tXset X.K f to te) where
  run := fun pins s σ H D I h => by
    refine plainObj_wpAny_Assign_Attribute (thn (he.run pins s σ H _ I h) fun v s1 ⟨y, H1, I1, r1, q1⟩ => thn (ho.run pins s1 σ H1 _ I1 q1) fun u s2 ⟨x, H2, I2, r2, a, C, fI, B, newId, initId, bmB, ex, T, no, q⟩ => ?_) hs
    subst ex
    cases r2
    rcases q with ⟨ea, q⟩ | ⟨dx, fs, ea, ed, hl, q⟩
    · exact xset_first T I2 ea no r1 fun dx s' n ne J => ⟨σ, _, J, q dx n ne⟩
    · exact xset_next T I2 ea ed hl no r1 fun s' J => ⟨σ, _, J, q⟩
end
/-! ### the promise of such an __init__, and the call of the class -/
/-- the attributes fn of the new exception are the arguments -/
def spXI (C : Addr) (fn : List Str) : Sp := fun vs H Q _ => ∃ (a : Addr) (ws : List V), vs = .ref a :: ws ∧ ws.length = fn.length ∧ H a = some (exo a C none) ∧
  ∀ H2, (∀ b o, b ≠ a → H b = some o → H2 b = some o) → ExV H2 a C (fn.zip ws).reverse → Q .non H2
def tXmk (C : Addr) (fn : List Str) (t : TA) : TE := fun σ H Q => t σ H fun vs H1 => vs.length = fn.length ∧ fn.length ≤ 1000 ∧ ∀ a H2, H1 a = none → Same H1 H2 → ExV H2 a C (fn.zip vs).reverse → Q (.ref a) H2
section
variable {X : Cx} {CT : CXT} {x : Str} {C fI : Addr} {n : Nat} {fd : FuncData} {ps fn : List Str} {B newId initId : String} {bmB : List Value} {p pos : Pos}
/-- the new object, its __init__ called, tracked -/
theorem xmade {pins : List (Addr × Obj)} {σ : L2.St} {H1 : Hp} {hp : Heap} {g : Array GenState} {dr : Drawn} {tk : Nat} {os : OsState} {Q : VK} {args : Args} {us : List Value} {vs : List V} (T : Xk X.K C fI B newId initId bmB)
    (F : FnOk X.prog X.w X.K X.mg X.base CX0 n fI fd ps (spXI C fn)) (room : Room (n + 1) X.A) (I1 : Inv X pins σ H1 ⟨hp, g, dr, tk, os⟩) (lay : List Value) (kw : List (Str × Value))
    (bi : ∀ s : Shared, X.K.In s.heap → BindsTo s fd args (ps.zip (.ref (hp.objs.size + 1) :: us))) (va : Vals vs us) (len : vs.length = fn.length)
    (ho : ∀ a H2, H1 a = none → Same H1 H2 → ExV H2 a C (fn.zip vs).reverse → Q (.ref a) H2) :
    codeAny (model X.prog X.w) (X.A.under (.builtin "type.__call__" ⟨.ref C :: lay, kw⟩)) (.call (.ref fI) args)
      (PySem.W.InitBack (hp.objs.size + 1) fun r s' => match r with | .ok (.ret v) => EP X pins σ Q v s' | .ok _ => False | .error e => X.xe e s')
      ⟨(hp.push (PySem.W.kdv_tup lay)).push (PySem.HandSPX.excO C hp.objs.size), g, dr, tk, os⟩ := by
  have big : hp.objs.size ≤ hp.objs.size + 1 := Nat.le_succ _
  have free : H1 (hp.objs.size + 1) = none := I1.hok.fresh big
  have old : ∀ b o, hp.get? b = some o → ((hp.push (PySem.W.kdv_tup lay)).push (PySem.HandSPX.excO C hp.objs.size)).get? b = some o := fun b o e => Heap.get?_push_of_some _ (Heap.get?_push_of_some _ e)
  have new : ((hp.push (PySem.W.kdv_tup lay)).push (PySem.HandSPX.excO C hp.objs.size)).get? (hp.objs.size + 1) = some (PySem.HandSPX.excO C hp.objs.size) := by heap_get
  have I2 : Inv X pins σ (upd H1 (hp.objs.size + 1) (exo (hp.objs.size + 1) C none)) ⟨(hp.push (PySem.W.kdv_tup lay)).push (PySem.HandSPX.excO C hp.objs.size), g, dr, tk, os⟩ :=
    I1.laid (t' := tk) (a := hp.objs.size + 1) (o := exo (hp.objs.size + 1) C none) (h' := (hp.push (PySem.W.kdv_tup lay)).push (PySem.HandSPX.excO C hp.objs.size)) old big (exo_ok new)
  have va2 : Vals (V.ref (hp.objs.size + 1) :: vs) (Value.ref (hp.objs.size + 1) :: us) := .cons rfl va
  refine codeAny_mono (F.run _ X.stack _ _ args (Value.ref (hp.objs.size + 1) :: us) _ (fun v H2 => v = .non ∧ Q (.ref (hp.objs.size + 1)) H2) (fun _ _ _ => False) (room.make C lay kw) (I2.env0.make C lay kw) (bi _ I2.kIn) va2
    ⟨_, vs, rfl, len, upd_same, fun H2 k ex => ⟨rfl, ho _ H2 free (fun b o e => ?_) ex⟩⟩) fun r s' z => ?_
  · have nb : b ≠ hp.objs.size + 1 := ne_of_none e free
    exact k b o nb ((upd_ne nb).trans e)
  · match r, z with
    | .ok (.ret u), z =>
      obtain ⟨v, G, J, rel, ev, q⟩ := I2.after z
      subst ev
      exact ⟨rel, .ref (hp.objs.size + 1), G, J, rfl, q⟩
    | .ok .next, z => exact z.elim
    | .ok .brk, z => exact z.elim
    | .ok .cont, z => exact z.elim
    | .error er, z => exact z.elim
theorem pe_xmk {e : Expr} {es : List Expr} {t : TA} (T : Xk X.K C fI B newId initId bmB) (F : FnOk X.prog X.w X.K X.mg X.base CX0 n fI fd ps (spXI C fn)) (room : Room (n + 1) X.A) (bi : Binds X.K fd ps []) (hps : ps.length = fn.length + 1)
    (hg : Gl X x) (hm : X.mg x = some (.ref C)) (ha : PA X (e :: es) t) (nd : (x == ("__debug__" : Str)) = false := by decide)
    (se : starEach (e :: es) X.env = (false, eval e X.env) :: starEach es X.env := by rfl) (sn : (backTo pos (starEach es X.env)).any (·.1) = false := by rfl) :
    PE X (.Call (.Name x p) (e :: es) [] pos) (tXmk C fn t) where
  run := fun pins s σ H Q I h => by
    refine wpAny_Call_Name_kw (ld_glob I hg hm ?_ nd)
    refine PySem.W.callWith_K (h₀ := X.base) I.ok.mod.kin T.keep (thn (ha.run pos pins s σ H _ I h) fun us s1 ⟨vs, H1, I1, r1, hl, hz, q1⟩ => ⟨I1.kIn, ?_⟩) se sn
    show wpAny _ _ (call (.ref C) us) _ _ _
    obtain ⟨hp, g, dr, tk, os⟩ := s1
    obtain ⟨nm, N, qn, bs, bm, hdct, sn, sub, ab, col, dd, k0, k1, k2, k3, k5, hC, same⟩ := PySem.W.excInit_of I1.kIn T.made
    have lu : us.length = fn.length := r1.length.symm.trans hl
    refine wpAny_call (PySem.HandSPX.call_own T.fb same hC (PySem.W.looks_findIn I1.kIn T.init) (fun self => PySem.W.bind_fn I1.kIn self T.fn) (by rw [sizeLine_eq]; omega) ?_)
    refine codeAny_mono (xmade (Q := Q) T F room I1 us [] (args := ⟨Value.ref (hp.objs.size + 1) :: us, []⟩) (us := us) (fun s2 k2 => ?_) r1 hl q1) fun r s' z => ?_
    · have z := bi s2 (Value.ref (hp.objs.size + 1) :: us) k2 (by rw [List.append_nil, List.length_cons, lu, hps])
      rw [List.append_nil] at z
      exact z
    · exact z
theorem pe_xmk0 (T : Xk X.K C fI B newId initId bmB) (F : FnOk X.prog X.w X.K X.mg X.base CX0 n fI fd ps (spXI C [])) (room : Room (n + 1) X.A) (bi : Binds X.K fd ps []) (hps : ps.length = 1)
    (hg : Gl X x) (hm : X.mg x = some (.ref C)) (nd : (x == ("__debug__" : Str)) = false := by decide) : PE X (.Call (.Name x p) [] [] pos) (tXmk C [] tNil) where
  run := fun pins s σ H Q I h => by
    refine wpAny_Call_Name_kw (ld_glob I hg hm ?_ nd)
    refine PySem.W.callWith_K0 I.kIn T.keep ?_
    obtain ⟨hp, g, dr, tk, os⟩ := s
    obtain ⟨nm, N, qn, bs, bm, hdct, sn, sub, ab, col, dd, k0, k1, k2, k3, k5, hC, same⟩ := PySem.W.excInit_of I.kIn T.made
    refine wpAny_call (PySem.HandSPX.call_own T.fb same hC (PySem.W.looks_findIn I.kIn T.init) (fun self => PySem.W.bind_fn I.kIn self T.fn) (Nat.zero_le _) ?_)
    refine codeAny_mono (xmade (Q := Q) (vs := []) T F room I [] [] (args := ⟨[Value.ref (hp.objs.size + 1)], []⟩) (us := []) (fun s2 k2 => ?_) .nil rfl h.2.2) fun r s' z => z
    have z := bi s2 [Value.ref (hp.objs.size + 1)] k2 (by rw [List.append_nil, hps]; rfl)
    exact z
/-- C(k = v, ..), keywords alone -/
theorem pe_xmkK {kws : List Keyword} {ks : List Str} {t : TA} (T : Xk X.K C fI B newId initId bmB) (F : FnOk X.prog X.w X.K X.mg X.base CX0 n fI fd ps (spXI C fn)) (room : Room (n + 1) X.A)
    (bi : ∀ (s : Shared) (u : Value) (ws : List Value), X.K.In s.heap → ws.length = ks.length → BindsTo s fd ⟨[u], ks.zip ws⟩ (ps.zip (u :: ws))) (lk : ks.length = fn.length)
    (hg : Gl X x) (hm : X.mg x = some (.ref C)) (ha : PK X kws t) (hall : (backToKw pos (keywordEach kws X.env)).all (·.1.isSome) = true := by rfl) (hks : (backToKw pos (keywordEach kws X.env)).filterMap (·.1) = ks := by rfl)
    (nd : (x == ("__debug__" : Str)) = false := by decide) (sn : ((backTo pos (starEach [] X.env)).any (·.1) || (backToKw pos (keywordEach kws X.env)).any (·.1.isNone)) = false := by rfl) :
    PE X (.Call (.Name x p) [] kws pos) (tXmk C fn t) where
  run := fun pins s σ H Q I h => by
    refine wpAny_Call_Name_kw (ld_glob I hg hm ?_ nd)
    refine PySem.W.callWith_KW0 (h₀ := X.base) I.ok.mod.kin T.keep hall (thn (ha.run pos pins s σ H _ I h) fun ws s1 ⟨vs, H1, I1, r1, hl, hz, q1⟩ => ⟨I1.kIn, ?_⟩) sn
    rw [hks]
    show wpAny _ _ (call (.ref C) [] (ks.zip ws)) _ _ _
    obtain ⟨hp, g, dr, tk, os⟩ := s1
    obtain ⟨nm, N, qn, bs, bm, hdct, sn, sub, ab, col, dd, k0, k1, k2, k3, k5, hC, same⟩ := PySem.W.excInit_of I1.kIn T.made
    have lu : ws.length = ks.length := (r1.length.symm.trans hl).trans lk.symm
    refine wpAny_call (PySem.XV.call_kw T.fb same hC (PySem.W.looks_findIn I1.kIn T.init) (fun self => PySem.W.bind_fn I1.kIn self T.fn) ?_)
    exact codeAny_mono (xmade (Q := Q) T F room I1 [] (ks.zip ws) (args := ⟨[Value.ref (hp.objs.size + 1)], ks.zip ws⟩) (us := ws) (fun s2 k2 => bi s2 _ ws k2 lu) r1 hl q1) fun r s' z => z
end
end PSG

set_option Elab.async false
set_option linter.all false
set_option maxRecDepth 100000
set_option maxHeartbeats 4000000
namespace PSG
open PySem PySem.Spec L2
open PyProof.Rows (IntsAre AllBare)
section
variable {X : Cx} {pins : List (Addr × Obj)} {σ : L2.St} {H : Hp} {s : Shared} {a C : Addr} {fs : List (Str × V)}
theorem exv_inst (I : Inv X pins σ H s) (x : ExV H a C fs) : ∃ ox od, PySem.W.InstAt s.heap a ox C od ∧ ((fs = [] ∧ od = none) ∨ ∃ dx o, od = some o ∧ H dx = some (exd dx fs) ∧ s.heap.get? dx = some o) := by
  rcases x with ⟨e, h⟩ | ⟨d, e, h, h2⟩
  · obtain ⟨t1, ob⟩ := exo_at I.hok h
    exact ⟨_, none, ⟨ob, rfl, rfl, trivial⟩, .inl ⟨e, rfl⟩⟩
  · obtain ⟨t1, ob⟩ := exo_at I.hok h
    obtain ⟨mA, hns, rel⟩ := exd_at I.hok h2
    obtain ⟨o, ho, _⟩ := lookIn_ns hns
    exact ⟨_, some o, ⟨ob, rfl, rfl, ho⟩, .inr ⟨d, o, rfl, h2, ho⟩⟩
/-- e.n, e an exception that stands -/
def tXfld (K : PySem.W.Frag) (n : Str) (te : TE) : TE := fun σ H Q => te σ H fun x H1 => ∃ (a C : Addr) (fs : List (Str × V)) (v : V), x = .ref a ∧ ExV H1 a C fs ∧ PySem.W.XcC K C ∧ PySem.W.findIn K (.ref C) n = some none ∧ fs.lookup n = some v ∧ Q v H1
theorem pe_xfld {e : Expr} {te : TE} {pos : Pos} {n : Str} (he : PE X e te) (hb : attributeBase e n X.env (eval e X.env) = eval e X.env := by rfl) : PE X (.Attribute e n pos) (tXfld X.K n te) where
  run := fun pins s σ H Q I h => by
    refine attr_of hb (thn (he.run pins s σ H _ I h) fun u s1 hh => ?_)
    obtain ⟨x, H1, I1, rx, a, C, fs, v, ex, V1, T, no, l, q⟩ := hh
    subst ex
    cases rx
    rcases V1 with ⟨e, h1⟩ | ⟨d, _, h1, h2⟩
    · rw [e] at l
      cases l
    · obtain ⟨t1, ob⟩ := exo_at I1.hok h1
      obtain ⟨mA, hns, rel⟩ := exd_at I1.hok h2
      obtain ⟨o, ho, look⟩ := lookIn_ns hns
      obtain ⟨w, hw, rw_⟩ := RelO.some_of (v := v) (o := mA n) (by rw [← l]; exact rel n)
      have J : PySem.W.InstAt s1.heap a _ C (some o) := ⟨ob, rfl, rfl, ho⟩
      exact PySem.HandSPX.exc_get I1.kIn J T.get T.get2 T.exc (PySem.W.findObj_own T.dict no rfl (by rw [look, hw])) (handed_of rw_) ⟨v, H1, I1.tok _, rw_, q⟩
/-- isinstance(e, c), e an exception that stands -/
def rXis (K : PySem.W.Frag) : List V → Hp → VK → Prop := fun xs H Q => ∃ (a C : Addr) (fs : List (Str × V)) (c : V) (u : Value) (b : Bool), xs = [.ref a, c] ∧ ClsV c u ∧ ExV H a C fs ∧ PySem.W.XcC K C ∧ PySem.W.kitOne K (.ref C) u = some b ∧ Q (.bl b) H
theorem call_xis : CallR X (.builtin "isinstance") (rXis X.K) := by
  intro pins s σ H xs us Q I r h
  obtain ⟨a, C, fs, c, u, b, rfl, k, x, T, e, q⟩ := h
  obtain ⟨u1, u2, rfl, r1, r2⟩ := vals2 r
  cases r1
  have e2 := k.eq r2
  subst e2
  obtain ⟨ox, od, J, _⟩ := exv_inst I x
  exact PySem.W.kia_one (T.kit (x := a) (ox := ox)) I.kIn ⟨od, J⟩ e (fun z => nomatch z) fun tk => ⟨.bl b, H, I.tok tk, rfl, q⟩
end
/-! ### lists that are new: not sys.modules -/
def tLstF (t : TA) : TE := fun σ H Q => t σ H fun xs H1 => xs.length ≤ sizeLine ∧ ∀ p, H1 p = none → p ≠ sysModules → Q (.ref p) (upd H1 p (.lst xs))
def rCatF : R2 := fun x y H Q => ∃ l b xs zs, x = .ref l ∧ y = .ref b ∧ H l = some (.lst xs) ∧ H b = some (.lst zs) ∧ xs.length + zs.length ≤ sizeLine ∧ ∀ p, H p = none → p ≠ sysModules → Q (.ref p) (upd H p (.lst (xs ++ zs)))
section
variable {X : Cx}
theorem pe_lstF {es : List Expr} {t : TA} {pos : Pos} (h : PA X es t) : PE X (.List es pos) (tLstF t) where
  run := fun pins s σ H Q I ho => by
    refine wpAny_List (thn (h.run pos pins s σ H _ I ho) fun us s1 ⟨xs, H1, I1, r, hz, q⟩ => ?_)
    have hl := r.length
    have new : s1.heap.objs.size ≠ sysModules := Nat.ne_of_gt I1.big
    exact ⟨by omega, .ref s1.heap.objs.size, _, I1.lnew (t' := s1.toks) r hz, rfl, q _ I1.fresh new⟩
theorem op_catF : OpR X (binaryOp .Add) rCatF := by
  intro pins s σ H x y v u Q I rx ry ho
  obtain ⟨l, b, xs, zs, rfl, rfl, h1, h2, hz, q⟩ := ho
  cases rx
  cases ry
  obtain ⟨_, is, _, r, _, e⟩ := I.lstM h1
  obtain ⟨_, js, _, r2, _, e2⟩ := I.lstM h2
  have l1 := r.length
  have l2 := r2.length
  refine PySem.P.add_list e e2 ?_ (by rw [List.size_toArray, List.size_toArray]; omega)
  rw [show is.toArray ++ js.toArray = (is ++ js).toArray by simp]
  have new : s.heap.objs.size ≠ sysModules := Nat.ne_of_gt I.big
  exact ⟨.ref s.heap.objs.size, _, I.lnew (t' := s.toks) (r.append r2) (by rw [List.length_append]; omega), rfl, q _ I.fresh new⟩
end
/-! ### heaps, data, draws -/
/-- what is tracked now and was not then -/
def news (B H : Hp) : Hp := fun b => match B b with | none => H b | some _ => none
theorem news_at {B H : Hp} {b : Addr} {o : HO} (h : B b = none) (e : H b = some o) : news B H b = some o := by
  unfold news
  rw [h]
  exact e
theorem news_of {B H : Hp} {b : Addr} {o : HO} (e : news B H b = some o) : B b = none ∧ H b = some o := by
  unfold news at e
  cases q : B b with
  | none =>
    rw [q] at e
    exact ⟨rfl, e⟩
  | some u =>
    rw [q] at e
    cases e
theorem news_sub {B H : Hp} : Same (news B H) H := fun _ _ e => (news_of e).2
mutual
theorem Dt.same {far : Bool} {H H' : Hp} (s : Same H H') : ∀ {v : V} {d : PyData}, Dt far H v d → Dt far H' v d
  | _, _, .non => .non
  | _, _, .bl b => .bl b
  | _, _, .int i => .int i
  | _, _, .str x => .str x
  | _, _, .lst e f t => .lst (s _ _ e) f (DtAll.same s t)
  | _, _, .tup e t => .tup (s _ _ e) (DtAll.same s t)
  | _, _, .dict e p => .dict (s _ _ e) p
theorem DtAll.same {far : Bool} {H H' : Hp} (s : Same H H') : ∀ {vs : List V} {ds : List PyData}, DtAll far H vs ds → DtAll far H' vs ds
  | _, _, .nil => .nil
  | _, _, .cons h t => .cons (Dt.same s h) (DtAll.same s t)
end
theorem DtAll.length {far : Bool} {H : Hp} : ∀ {vs : List V} {ds : List PyData}, DtAll far H vs ds → vs.length = ds.length
  | _, _, .nil => rfl
  | _, _, .cons _ t => congrArg Nat.succ (DtAll.length t)
theorem DtAll.append {far : Bool} {H : Hp} : ∀ {vs ws : List V} {ds es : List PyData}, DtAll far H vs ds → DtAll far H ws es → DtAll far H (vs ++ ws) (ds ++ es)
  | _, _, _, _, .nil, h => h
  | _, _, _, _, .cons h t, h2 => .cons h (DtAll.append t h2)
theorem DtAll.get {far : Bool} {H : Hp} : ∀ {vs : List V} {ds : List PyData} {i : Nat} {v : V}, DtAll far H vs ds → vs[i]? = some v → ∃ d, ds[i]? = some d ∧ Dt far H v d
  | _, _, i, _, .nil, e => by simp at e
  | _, _, 0, _, .cons h _, e => by
    have e' := Option.some.inj e
    subst e'
    exact ⟨_, rfl, h⟩
  | _, _, i + 1, _, .cons _ t, e => DtAll.get (i := i) t e
/-- all but the object at r is as it was -/
def But (r : Addr) (H H' : Hp) : Prop := ∀ b o, b ≠ r → H b = some o → H' b = some o
theorem But.refl {r : Addr} {H : Hp} : But r H H := fun _ _ _ e => e
theorem But.trans {r : Addr} {H H1 H2 : Hp} (a : But r H H1) (b : But r H1 H2) : But r H H2 := fun c o n e => b c o n (a c o n e)
theorem But.of {r : Addr} {H H' : Hp} (s : Same H H') : But r H H' := fun b o _ e => s b o e
theorem But.at {r : Addr} {H : Hp} {o : HO} : But r H (upd H r o) := fun b _ n e => (upd_ne n).trans e
theorem same_new {H : Hp} {p : Addr} {o : HO} (h : H p = none) : Same H (upd H p o) := fun b x e => (upd_ne (ne_of_none e h)).trans e
/-- at r: the two numbers that the draws are made of -/
def Rg (H : Hp) (r : Addr) : Prop := ∃ x y : Int, H r = some (.lst [.int x, .int y]) ∧ 0 ≤ x ∧ 0 ≤ y ∧ y < 2147483587
theorem Rg.some {H : Hp} {r : Addr} (g : Rg H r) : ∃ o, H r = some o := by
  obtain ⟨x, y, e, _⟩ := g
  exact ⟨_, e⟩
theorem Rg.new {H : Hp} {r p : Addr} {o : HO} (g : Rg H r) (h : H p = none) : Rg (upd H p o) r := by
  obtain ⟨x, y, e, z⟩ := g
  exact ⟨x, y, (upd_ne (ne_of_none e h)).trans e, z⟩
theorem Rg.same {H H' : Hp} {r : Addr} (g : Rg H r) (s : Same H H') : Rg H' r := by
  obtain ⟨x, y, e, z⟩ := g
  exact ⟨x, y, s _ _ e, z⟩
/-- what is new stays, where all that is not new may change -/
theorem news_but {B H H' : Hp} {r : Addr} (s : But r H H') (there : ∃ o, B r = some o) : Same (news B H) (news B H') := fun b o e => by
  obtain ⟨h1, h2⟩ := news_of e
  obtain ⟨u, hu⟩ := there
  exact news_at h1 (s b o (fun z => by rw [z, hu] at h1; cases h1) h2)
theorem news_up {B H H' : Hp} (d : ∀ b o, B b = some o → ∃ u, H b = some u) : Same (news H H') (news B H') := fun b o e => by
  obtain ⟨h1, h2⟩ := news_of e
  refine news_at ?_ h2
  cases q : B b with
  | none => rfl
  | some u =>
    obtain ⟨x, hx⟩ := d b u q
    rw [h1] at hx
    cases hx
theorem But.dom {r : Addr} {H H' : Hp} (s : But r H H') (g : ∃ o, H' r = some o) : ∀ b o, H b = some o → ∃ u, H' b = some u := fun b o e => by
  by_cases hb : b = r
  · rw [hb]
    exact g
  · exact ⟨o, s b o hb e⟩
/-- data with a short text, not deep -/
structure Nice (d : PyData) : Prop where
  sh : d.showable = true
  ln : d.shown.length ≤ 100
  dp : d.depth ≤ 6
end PSG

set_option Elab.async false
set_option linter.all false
set_option maxRecDepth 100000
set_option maxHeartbeats 4000000
/-! zip of two texts -/
namespace PSZ
open PySem
open PySem.Sem (wp)
section
variable {prog : Program} {w : World} {A : Around} {E : Value → Shared → Prop} {s : Shared}
def TextTy (ty : String) : Prop := ty = "str_ascii_iterator" ∨ ty = "str_iterator"
theorem text_item {ty : String} {p : Addr} {x : Str} {t : Tok} {i c : Nat} {Q : Value → Shared → Prop} (k : TextTy ty) (it : s.heap.IsStrIter p ty x t i) (e : x.cps[i]? = some c)
    (q : ∀ g, g.IsStrIter p ty x t (i + 1) → Heap.SameBut p s.heap g → Q (.str ⟨#[c]⟩ s.toks) { s with heap := g, toks := s.toks + 1 }) : wpAny (model prog w) A (Builtin.SmallTypes.nextOf (.ref p)) Q E s := by
  rcases k with rfl | rfl
  · exact wpAny_nextOf_ascii_item it e q
  · exact wpAny_nextOf_wide_item it e q
theorem text_end {ty : String} {p : Addr} {x : Str} {t : Tok} {i : Nat} {Q : Value → Shared → Prop} (k : TextTy ty) (hd : A.handled = none) (it : s.heap.IsStrIter p ty x t i) (e : x.cps[i]? = none)
    (q : ∀ g b, Heap.ExtBut p s.heap g → (∃ o, g.get? b = some o ∧ o.cls = .type "StopIteration") → E (.ref b) { s with heap := g }) : wpAny (model prog w) A (Builtin.SmallTypes.nextOf (.ref p)) Q E s := by
  rcases k with rfl | rfl
  · exact wpAny_nextOf_ascii_end hd it e q
  · exact wpAny_nextOf_wide_end hd it e q
theorem at_text {h h' : Heap} {p : Addr} {ty : String} {x : Str} {t : Tok} {i : Nat} (y : h.IsStrIter p ty x t i) (k : ∀ o, h.get? p = some o → h'.get? p = some o) : h'.IsStrIter p ty x t i :=
  let ⟨o, e, r⟩ := y
  ⟨o, k o e, r⟩
/-- a turn of zip over two texts that both have a further sign -/
theorem zipS_item {z TI TO i1 i2 l1 l2 : Addr} {ty1 ty2 : String} {x1 x2 : Str} {t1 t2 : Tok} {k1 k2 c1 c2 : Nat} {a b : Value} {Q : Value → Shared → Prop} (D : ZipApart z TI TO i1 i2 l1 l2) (y1 : TextTy ty1) (y2 : TextTy ty2)
    (hz : IsZip s.heap z TI TO .none) (hTI : IsPair s.heap TI (.ref i1) (.ref i2)) (hTO : IsPair s.heap TO a b) (h1 : s.heap.IsStrIter i1 ty1 x1 t1 k1) (h2 : s.heap.IsStrIter i2 ty2 x2 t2 k2)
    (e1 : x1.cps[k1]? = some c1) (e2 : x2.cps[k2]? = some c2)
    (q : ∀ g n u1 u2, IsZip g z TI TO (rawInt s.heap.objs.size) → (∃ a b, IsPair g TO a b) → g.IsStrIter i1 ty1 x1 t1 (k1 + 1) → g.IsStrIter i2 ty2 x2 t2 (k2 + 1) → IsPair g s.heap.objs.size (.str ⟨#[c1]⟩ u1) (.str ⟨#[c2]⟩ u2) →
      (∀ c o, c ≠ z → c ≠ TO → c ≠ i1 → c ≠ i2 → s.heap.get? c = some o → g.get? c = some o) → Q (.ref s.heap.objs.size) { s with heap := g, toks := n }) :
    wpAny (model prog w) A (Builtin.«zip.__next__» ⟨[.ref z], []⟩) (fun r s' => ∃ v, r = .done (.ret v) ∧ Q v s') E s := by
  show wpAny _ _ (field (.ref z) 2 >>= _) _ _ _
  refine wpAny_bind (wpAny_field hz rfl (x := .bool false) rfl ?_)
  show wpAny _ _ (field (.ref z) 3 >>= _) _ _ _
  refine wpAny_bind (wpAny_field hz rfl (x := .ref TI) rfl ?_)
  refine wpAny_bind (wpAny_seqItems hTI rfl ?_)
  show wpAny _ _ (Builtin.SmallTypes.ownedTupleIsFree (.ref z) >>= _) _ _ _
  refine wpAny_bind ?_
  unfold Builtin.SmallTypes.ownedTupleIsFree
  refine wpAny_bind (wpAny_field hz rfl (x := .none) rfl (wpAny_pure ?_))
  simp only [if_true]
  refine wpAny_bind (wpAny_rule ?_)
  refine wpAny_bind (wpAny_field hz rfl (x := .ref TO) rfl ?_)
  refine wpAny_bind (wpAny_setField_rec hz (by simp) fun g1 z1 s1 => ?_)
  replace z1 : IsZip g1 z TI TO .ellipsis := z1
  refine wpAny_bind ?_
  simp only [List.zipIdx_cons, List.zipIdx_nil, List.forIn_cons, List.forIn_nil]
  refine wpAny_bind (wpAny_bind (wpAny_onRaise ?_))
  show wpAny _ _ (Builtin.SmallTypes.nextOf (.ref i1) >>= _) _ _ _
  refine wpAny_bind (text_item y1 (h1.extBut s1.extBut D.i1z) e1 fun g2 it1 s2 => wpAny_pure ?_)
  have o2 : IsPair g2 TO a b := s2.extBut _ _ D.TOi1 (s1.extBut _ _ D.TOz hTO)
  refine wpAny_bind (wpAny_seqItems o2 rfl ?_)
  refine wpAny_bind (wpAny_updateSeq_pair o2 fun g3 o3 s3 => ?_)
  replace o3 : IsPair g3 TO (.str ⟨#[c1]⟩ s.toks) b := o3
  refine wpAny_bind (wpAny_letGo (wpAny_pure ?_))
  refine wpAny_bind (wpAny_bind (wpAny_onRaise ?_))
  show wpAny _ _ (Builtin.SmallTypes.nextOf (.ref i2) >>= _) _ _ _
  refine wpAny_bind (text_item y2 (((h2.extBut s1.extBut D.i2z).extBut s2.extBut D.i12.symm).extBut s3.extBut D.TOi2.symm) e2 fun g4 it2 s4 => wpAny_pure ?_)
  have o4 : IsPair g4 TO (.str ⟨#[c1]⟩ s.toks) b := s4.extBut _ _ D.TOi2 o3
  refine wpAny_bind (wpAny_seqItems o4 rfl ?_)
  refine wpAny_bind (wpAny_updateSeq_pair o4 fun g5 o5 s5 => ?_)
  replace o5 : IsPair g5 TO (.str ⟨#[c1]⟩ s.toks) (.str ⟨#[c2]⟩ (s.toks + 1)) := o5
  refine wpAny_bind (wpAny_letGo (wpAny_pure (wpAny_pure ?_)))
  refine wpAny_bind (wpAny_seqItems o5 rfl ?_)
  refine wpAny_bind (wpAny_newTuple ?_)
  have size : g5.objs.size = s.heap.objs.size := by rw [s5.1, s4.1, s3.1, s2.1, s1.1]
  have z5 : IsZip g5 z TI TO .ellipsis := s5.extBut _ _ D.TOz.symm (s4.extBut _ _ D.i2z.symm (s3.extBut _ _ D.TOz.symm (s2.extBut _ _ D.i1z.symm z1)))
  have keep : ∀ c o, c ≠ z → c ≠ TO → c ≠ i1 → c ≠ i2 → s.heap.get? c = some o → g5.get? c = some o := fun c o n1 n2 n3 n4 e =>
    s5.extBut _ _ n2 (s4.extBut _ _ n4 (s3.extBut _ _ n2 (s2.extBut _ _ n3 (s1.extBut _ _ n1 e))))
  have j1 : g5.IsStrIter i1 ty1 x1 t1 (k1 + 1) := ((it1.extBut s3.extBut D.TOi1.symm).extBut s4.extBut D.i12).extBut s5.extBut D.TOi1.symm
  have j2 : g5.IsStrIter i2 ty2 x2 t2 (k2 + 1) := it2.extBut s5.extBut D.TOi2.symm
  have lz : z < g5.objs.size := Heap.lt_size z5
  show wpAny _ _ (Builtin.SmallTypes.ownedTupleHandOut (.ref z) (.ref g5.objs.size) >>= _) _ _ _
  refine wpAny_bind ?_
  unfold Builtin.SmallTypes.ownedTupleHandOut
  have z6 : IsZip (g5.push { cls := .type "tuple", data := .seq #[.str ⟨#[c1]⟩ s.toks, .str ⟨#[c2]⟩ (s.toks + 1)] }) z TI TO .ellipsis := Heap.get?_push_of_some _ z5
  refine wpAny_bind (wpAny_setField_rec z6 (by simp) fun g7 z7 s7 => ?_)
  replace z7 : IsZip g7 z TI TO (rawInt g5.objs.size) := z7
  refine wpAny_setField_rec z7 (by simp) fun g8 z8 s8 => ?_
  replace z8 : IsZip g8 z TI TO (rawInt g5.objs.size) := z8
  have up : ∀ c o, c ≠ z → g5.get? c = some o → g8.get? c = some o := fun c o n e => s8.extBut _ _ n (s7.extBut _ _ n (Heap.get?_push_of_some _ e))
  have p8 : IsPair g8 g5.objs.size (.str ⟨#[c1]⟩ s.toks) (.str ⟨#[c2]⟩ (s.toks + 1)) := s8.extBut _ _ (Nat.ne_of_gt lz) (s7.extBut _ _ (Nat.ne_of_gt lz) (Heap.get?_push_size _ rfl))
  rw [size] at z8 p8
  refine wpAny_pure ⟨_, rfl, ?_⟩
  show Q (.ref g5.objs.size) _
  rw [size]
  exact q g8 _ _ _ z8 ⟨_, _, up _ _ D.TOz o5⟩ (at_text j1 fun o e => up _ o D.i1z e) (at_text j2 fun o e => up _ o D.i2z e) p8 fun c o n1 n2 n3 n4 e => up c o n1 (keep c o n1 n2 n3 n4 e)
/-- the turn at which one of the texts is at its end -/
theorem zipS_end {z TI TO i1 i2 l1 l2 : Addr} {ty1 ty2 : String} {x1 x2 : Str} {t1 t2 : Tok} {k1 k2 : Nat} {a b : Value} {Q : Fin → Shared → Prop} (hd : A.handled = none) (D : ZipApart z TI TO i1 i2 l1 l2) (y1 : TextTy ty1) (y2 : TextTy ty2)
    (hz : IsZip s.heap z TI TO .none) (hTI : IsPair s.heap TI (.ref i1) (.ref i2)) (hTO : IsPair s.heap TO a b) (h1 : s.heap.IsStrIter i1 ty1 x1 t1 k1) (h2 : s.heap.IsStrIter i2 ty2 x2 t2 k2)
    (fin : x1.cps[k1]? = none ∨ x2.cps[k2]? = none)
    (q : ∀ g n e, (∀ c o, c ≠ z → c ≠ TO → c ≠ i1 → c ≠ i2 → s.heap.get? c = some o → g.get? c = some o) → (∃ o, g.get? e = some o ∧ o.cls = .type "StopIteration") → E (.ref e) { s with heap := g, toks := n }) :
    wpAny (model prog w) A (Builtin.«zip.__next__» ⟨[.ref z], []⟩) Q E s := by
  show wpAny _ _ (field (.ref z) 2 >>= _) _ _ _
  refine wpAny_bind (wpAny_field hz rfl (x := .bool false) rfl ?_)
  show wpAny _ _ (field (.ref z) 3 >>= _) _ _ _
  refine wpAny_bind (wpAny_field hz rfl (x := .ref TI) rfl ?_)
  refine wpAny_bind (wpAny_seqItems hTI rfl ?_)
  show wpAny _ _ (Builtin.SmallTypes.ownedTupleIsFree (.ref z) >>= _) _ _ _
  refine wpAny_bind ?_
  unfold Builtin.SmallTypes.ownedTupleIsFree
  refine wpAny_bind (wpAny_field hz rfl (x := .none) rfl (wpAny_pure ?_))
  simp only [if_true]
  refine wpAny_bind (wpAny_rule ?_)
  refine wpAny_bind (wpAny_field hz rfl (x := .ref TO) rfl ?_)
  refine wpAny_bind (wpAny_setField_rec hz (by simp) fun g1 z1 s1 => ?_)
  replace z1 : IsZip g1 z TI TO .ellipsis := z1
  refine wpAny_bind ?_
  simp only [List.zipIdx_cons, List.zipIdx_nil, List.forIn_cons, List.forIn_nil]
  refine wpAny_bind (wpAny_bind (wpAny_onRaise ?_))
  show wpAny _ _ (Builtin.SmallTypes.nextOf (.ref i1) >>= _) _ _ _
  cases e1 : x1.cps[k1]? with
  | none =>
    refine wpAny_bind (text_end y1 hd (h1.extBut s1.extBut D.i1z) e1 fun g2 e s2 st => ?_)
    obtain ⟨oe, ge, ce⟩ := st
    have z2 : IsZip g2 z TI TO .ellipsis := s2 _ _ D.i1z.symm z1
    have nz : e ≠ z := fun x => by
      rw [x, z2] at ge
      cases ge
      simp at ce
    exact wpAny_setField_rec z2 (by simp) fun g3 _ s3 => q g3 _ e (fun c o n1 _ n3 _ x => s3.extBut _ _ n1 (s2 _ _ n3 (s1.extBut _ _ n1 x))) ⟨oe, s3.extBut _ _ nz ge, ce⟩
  | some c1 =>
    have e2 : x2.cps[k2]? = none := by
      rcases fin with h | h
      · rw [e1] at h
        cases h
      · exact h
    refine wpAny_bind (text_item y1 (h1.extBut s1.extBut D.i1z) e1 fun g2 it1 s2 => wpAny_pure ?_)
    have o2 : IsPair g2 TO a b := s2.extBut _ _ D.TOi1 (s1.extBut _ _ D.TOz hTO)
    refine wpAny_bind (wpAny_seqItems o2 rfl ?_)
    refine wpAny_bind (wpAny_updateSeq_pair o2 fun g3 o3 s3 => ?_)
    refine wpAny_bind (wpAny_letGo (wpAny_pure ?_))
    refine wpAny_bind (wpAny_bind (wpAny_onRaise ?_))
    show wpAny _ _ (Builtin.SmallTypes.nextOf (.ref i2) >>= _) _ _ _
    refine wpAny_bind (text_end y2 hd (((h2.extBut s1.extBut D.i2z).extBut s2.extBut D.i12.symm).extBut s3.extBut D.TOi2.symm) e2 fun g4 e s4 st => ?_)
    obtain ⟨oe, ge, ce⟩ := st
    have z4 : IsZip g4 z TI TO .ellipsis := s4 _ _ D.i2z.symm (s3.extBut _ _ D.TOz.symm (s2.extBut _ _ D.i1z.symm z1))
    have nz : e ≠ z := fun x => by
      rw [x, z4] at ge
      cases ge
      simp at ce
    exact wpAny_setField_rec z4 (by simp) fun g5 _ s5 => q g5 _ e (fun c o n1 n2 n3 n4 x => s5.extBut _ _ n1 (s4 _ _ n4 (s3.extBut _ _ n2 (s2.extBut _ _ n3 (s1.extBut _ _ n1 x))))) ⟨oe, s5.extBut _ _ nz ge, ce⟩
theorem next_zipS {z TI TO i1 i2 l1 l2 : Addr} {ty1 ty2 : String} {x1 x2 : Str} {t1 t2 : Tok} {k1 k2 c1 c2 : Nat} {a b : Value} {Q : Option Value → Shared → Prop} (D : ZipApart z TI TO i1 i2 l1 l2) (y1 : TextTy ty1) (y2 : TextTy ty2)
    (hz : IsZip s.heap z TI TO .none) (hTI : IsPair s.heap TI (.ref i1) (.ref i2)) (hTO : IsPair s.heap TO a b) (h1 : s.heap.IsStrIter i1 ty1 x1 t1 k1) (h2 : s.heap.IsStrIter i2 ty2 x2 t2 k2)
    (e1 : x1.cps[k1]? = some c1) (e2 : x2.cps[k2]? = some c2)
    (q : ∀ g n u1 u2, IsZip g z TI TO (rawInt s.heap.objs.size) → (∃ a b, IsPair g TO a b) → g.IsStrIter i1 ty1 x1 t1 (k1 + 1) → g.IsStrIter i2 ty2 x2 t2 (k2 + 1) → IsPair g s.heap.objs.size (.str ⟨#[c1]⟩ u1) (.str ⟨#[c2]⟩ u2) →
      (∀ c o, c ≠ z → c ≠ TO → c ≠ i1 → c ≠ i2 → s.heap.get? c = some o → g.get? c = some o) → Q (some (.ref s.heap.objs.size)) { s with heap := g, toks := n }) :
    wpAny (model prog w) A (pyNext (.ref z)) Q E s := by
  have ty : s.TypeIs (.ref z) "zip" := ⟨_, hz, rfl⟩
  unfold pyNext
  refine wpAny_bind (wpAny_attempt (wpAny_callSpecial?_slot (name := Str.ofString "__next__") ty F.slot_zip_next (wpAny_call_entry F.slot_zip_next ty F.entry_zip_next ?_ (F.args_zip_next_1 _))))
  exact zipS_item D y1 y2 hz hTI hTO h1 h2 e1 e2 fun g n u1 u2 p1 p2 p3 p4 p5 p6 => wpAny_pure (q g n u1 u2 p1 p2 p3 p4 p5 p6)
theorem next_zipS_end {z TI TO i1 i2 l1 l2 : Addr} {ty1 ty2 : String} {x1 x2 : Str} {t1 t2 : Tok} {k1 k2 : Nat} {a b : Value} {Q : Option Value → Shared → Prop} (hd : A.handled = none) (D : ZipApart z TI TO i1 i2 l1 l2) (y1 : TextTy ty1) (y2 : TextTy ty2)
    (hz : IsZip s.heap z TI TO .none) (hTI : IsPair s.heap TI (.ref i1) (.ref i2)) (hTO : IsPair s.heap TO a b) (h1 : s.heap.IsStrIter i1 ty1 x1 t1 k1) (h2 : s.heap.IsStrIter i2 ty2 x2 t2 k2)
    (fin : x1.cps[k1]? = none ∨ x2.cps[k2]? = none) (q : ∀ g n, (∀ c o, c ≠ z → c ≠ TO → c ≠ i1 → c ≠ i2 → s.heap.get? c = some o → g.get? c = some o) → Q none { s with heap := g, toks := n }) : wpAny (model prog w) A (pyNext (.ref z)) Q E s := by
  have ty : s.TypeIs (.ref z) "zip" := ⟨_, hz, rfl⟩
  unfold pyNext
  refine wpAny_bind (wpAny_attempt (wpAny_callSpecial?_slot (name := Str.ofString "__next__") ty F.slot_zip_next (wpAny_call_entry F.slot_zip_next ty F.entry_zip_next ?_ (F.args_zip_next_1 _))))
  refine zipS_end hd D y1 y2 hz hTI hTO h1 h2 fin fun g n e k st => ?_
  obtain ⟨o, ho, hc⟩ := st
  exact wpAny_bind (wpAny_isInstance (T := "StopIteration") (b := true) ⟨o, ho, hc⟩ isSubtype_stop (wpAny_pure (q g n k)))
end
end PSZ

set_option Elab.async false
set_option linter.all false
set_option maxRecDepth 100000
set_option maxHeartbeats 4000000
namespace PSZ
open PySem
open PySem.Sem (wp)
theorem textTy (x : Str) : TextTy (strIterType x) := by
  unfold strIterType
  split
  · exact .inl rfl
  · exact .inr rfl
def walker (x : Str) (t : Tok) : Obj := { cls := .type (strIterType x), data := .fields #[.str x t, .int 0 0] }
def two (a b : Value) : Obj := { cls := .type "tuple", data := .seq #[a, b] }
def pairs (h : Heap) (x y : Str) (t u : Tok) : Heap := (((h.push (walker x t)).push (walker y u)).push (two (.ref h.objs.size) (.ref (h.push (walker x t)).objs.size))).push (two .none .none)
def zipped (h : Heap) (x y : Str) (t u : Tok) : Heap :=
  (pairs h x y t u).push { cls := .type "zip", data := .fields #[.none, .bool false, .bool false, .ref ((h.push (walker x t)).push (walker y u)).objs.size, .ref (((h.push (walker x t)).push (walker y u)).push (two (.ref h.objs.size) (.ref (h.push (walker x t)).objs.size))).objs.size] }
theorem new_zipS (x y : Str) (t u : Tok) : Meets (Builtin.«zip.__new__» ⟨[.type "zip", .str x t, .str y u], []⟩) (fun _ R s => R (.ok (.ret (.ref (pairs s.heap x y t u).objs.size))) { s with heap := zipped s.heap x y t u }) :=
  .of_wp fun prog w A R s h => by
    obtain ⟨hp, g, d, tk, os⟩ := s
    have sub := sub_zip
    wp_walk using wpAny_pyIter_strU
    exact ⟨_, rfl, h⟩
section
variable {prog : Program} {w : World} {A : Around} {E : Value → Shared → Prop} {s : Shared}
theorem call_zipS {x y : Str} {t u : Tok} {Q : Value → Shared → Prop}
    (q : ∀ g, IsZip g (s.heap.objs.size + 4) (s.heap.objs.size + 2) (s.heap.objs.size + 3) .none → IsPair g (s.heap.objs.size + 2) (.ref s.heap.objs.size) (.ref (s.heap.objs.size + 1)) → IsPair g (s.heap.objs.size + 3) .none .none →
      g.IsStrIter s.heap.objs.size (strIterType x) x t 0 → g.IsStrIter (s.heap.objs.size + 1) (strIterType y) y u 0 → (∀ c o, s.heap.get? c = some o → g.get? c = some o) → Q (.ref (s.heap.objs.size + 4)) { s with heap := g }) :
    wpAny (model prog w) A (call (.type "zip") [.str x t, .str y u]) Q E s := by
  refine callType_new F.called_zip (by decide) (F.typeCall_zip_2 _ _) (F.newCall_zip_2 _ _) (fun obj => F.args_object_init_3 obj _ _) F.entry_zip_new (new_zipS x y t u) ?_
  have n1 : (s.heap.push (walker x t)).objs.size = s.heap.objs.size + 1 := Heap.size_push ..
  have n2 : ((s.heap.push (walker x t)).push (walker y u)).objs.size = s.heap.objs.size + 2 := by rw [Heap.size_push, n1]
  have n3 : (((s.heap.push (walker x t)).push (walker y u)).push (two (.ref s.heap.objs.size) (.ref (s.heap.push (walker x t)).objs.size))).objs.size = s.heap.objs.size + 3 := by rw [Heap.size_push, n2]
  have n4 : (pairs s.heap x y t u).objs.size = s.heap.objs.size + 4 := by
    unfold pairs
    rw [Heap.size_push, n3]
  have old : ∀ {c : Addr} {o : Obj}, (pairs s.heap x y t u).get? c = some o → (zipped s.heap x y t u).get? c = some o := fun e => Heap.get?_push_of_some _ e
  have a5 : (zipped s.heap x y t u).get? (pairs s.heap x y t u).objs.size = some _ := Heap.get?_push_size _ rfl
  have a4 : (zipped s.heap x y t u).get? _ = some _ := old (Heap.get?_push_size _ rfl)
  have a3 : (zipped s.heap x y t u).get? _ = some _ := old (Heap.get?_push_of_some _ (Heap.get?_push_size _ rfl))
  have a2 : (zipped s.heap x y t u).get? _ = some _ := old (Heap.get?_push_of_some _ (Heap.get?_push_of_some _ (Heap.get?_push_size _ rfl)))
  have a1 : (zipped s.heap x y t u).get? s.heap.objs.size = some _ := old (Heap.get?_push_of_some _ (Heap.get?_push_of_some _ (Heap.get?_push_of_some _ (Heap.get?_push_size _ rfl))))
  show _ ∧ _
  rw [n2, n3, n4] at a5
  rw [n3] at a4
  rw [n2, n1] at a3
  rw [n1] at a2
  rw [n4]
  exact ⟨⟨_, a5, rfl⟩, q _ a5 a3 a4 ⟨_, a1, rfl, rfl⟩ ⟨_, a2, rfl, rfl⟩ fun c o e => old (Heap.get?_push_of_some _ (Heap.get?_push_of_some _ (Heap.get?_push_of_some _ (Heap.get?_push_of_some _ e))))⟩
end
end PSZ
namespace PSG
open PySem PySem.Spec L2
open PyProof.Rows (IntsAre AllBare)
/-- the pairs of two texts -/
def Itzs (x y : Str) : It :=
  ⟨fun i _ => i < x.cps.size ∧ i < y.cps.size, fun i H v H' => ∃ T c d, v = .ref T ∧ H T = none ∧ H' = upd H T (.tup [.str ⟨#[c]⟩, .str ⟨#[d]⟩]) ∧ x.cps[i]? = some c ∧ y.cps[i]? = some d, fun i _ => x.cps.size ≤ i ∨ y.cps.size ≤ i⟩
theorem turn_zipS {P : Program} {w : World} {K : PySem.W.Frag} {tg : List Expr} {n : Nat} {tp : Pos} {x y : Str} {t u : Tok} {l1 l2 z TI TO i1 i2 : Addr} (D : ZipApart z TI TO i1 i2 l1 l2) :
    Turn P w K (.Tuple tg n tp) (Itzs x y) [z, TI, TO, i1, i2] z (fun i h => IsZip h z TI TO .none ∧ IsPair h TI (.ref i1) (.ref i2) ∧ (∃ a b, IsPair h TO a b) ∧ h.IsStrIter i1 (strIterType x) x t i ∧ h.IsStrIter i2 (strIterType y) y u i) where
  mem := by simp
  obj := fun i h st c hc => by
    obtain ⟨hz, hTI, ⟨a, b, hTO⟩, ⟨o1, e1, _, d1⟩, ⟨o2, e2, _, d2⟩⟩ := st
    have which : c = z ∨ c = TI ∨ c = TO ∨ c = i1 ∨ c = i2 := by simpa using hc
    rcases which with rfl | rfl | rfl | rfl | rfl
    · exact ⟨_, hz, fun v q => nomatch q⟩
    · exact ⟨_, hTI, fun v q => nomatch q⟩
    · exact ⟨_, hTO, fun v q => nomatch q⟩
    · exact ⟨o1, e1, fun v q => by rw [d1] at q; cases q⟩
    · exact ⟨o2, e2, fun v q => by rw [d2] at q; cases q⟩
  keep := fun i h h' st k => by
    obtain ⟨hz, hTI, ⟨a, b, hTO⟩, h1, h2⟩ := st
    exact ⟨k z (by simp) _ hz, k TI (by simp) _ hTI, ⟨a, b, k TO (by simp) _ hTO⟩, PSZ.at_text h1 fun o q => k i1 (by simp) o q, PSZ.at_text h2 fun o q => k i2 (by simp) o q⟩
  item := by
    intro X e1 e2 e3 calm i pins s σ H E I fp st go
    subst e1 e2 e3
    obtain ⟨hz, hTI, ⟨a, b, hTO⟩, h1, h2⟩ := st
    obtain ⟨lx, ly⟩ := go
    have ex : x.cps[i]? = some x.cps[i] := Array.getElem?_eq_getElem lx
    have ey : y.cps[i]? = some y.cps[i] := Array.getElem?_eq_getElem ly
    have lz : z < s.heap.objs.size := Heap.lt_size hz
    refine PSZ.next_zipS D (PSZ.textTy x) (PSZ.textTy y) hz hTI hTO h1 h2 ex ey fun g m u1 u2 z' o' j1 j2 pr k => ?_
    refine ⟨_, rfl, wpAny_letOwnedTupleGo_zip (s := { s with heap := g, toks := m }) z' fun g2 z2 sb => ?_⟩
    have pr2 : g2.get? s.heap.objs.size = some { cls := .type "tuple", data := .seq #[.str ⟨#[x.cps[i]]⟩ u1, .str ⟨#[y.cps[i]]⟩ u2] } := (sb.2 _ (Nat.ne_of_gt lz)).trans pr
    have new : ObjOk X.prog X.w (upd H s.heap.objs.size (.tup [.str ⟨#[x.cps[i]]⟩, .str ⟨#[y.cps[i]]⟩])) g2 s.heap.objs.size (.tup [.str ⟨#[x.cps[i]]⟩, .str ⟨#[y.cps[i]]⟩]) :=
      ⟨by show 2 ≤ sizeLine; decide, _, .cons ⟨u1, rfl⟩ (.cons ⟨u2, rfl⟩ .nil), ⟨_, pr2, rfl, _, rfl⟩⟩
    have out : ∀ c, c ∉ [z, TI, TO, i1, i2] → c ≠ z ∧ c ≠ TO ∧ c ≠ i1 ∧ c ≠ i2 := fun c n => by
      simp only [List.mem_cons, List.not_mem_nil, or_false, not_or] at n
      exact ⟨n.1, n.2.2.1, n.2.2.2.1, n.2.2.2.2⟩
    have J := I.turnedNew (t' := m) (ch := [z, TI, TO, i1, i2]) (fun c o n q => (sb.2 c (out c n).1).trans (k c o (out c n).1 (out c n).2.1 (out c n).2.2.1 (out c n).2.2.2 q)) fp (Nat.le_refl _) new
    refine ⟨.ref s.heap.objs.size, _, J, rfl, ⟨_, _, _, rfl, I.hok.fresh (Nat.le_refl _), rfl, ex, ey⟩, ⟨z2, (sb.2 _ D.TIz).trans (k _ _ D.TIz D.TITO D.TIi1 D.TIi2 hTI), ?_, PSZ.at_text j1 fun o q => (sb.2 _ D.i1z).trans q, PSZ.at_text j2 fun o q => (sb.2 _ D.i2z).trans q⟩, fun c m => ?_⟩
    · obtain ⟨a', b', q⟩ := o'
      exact ⟨a', b', (sb.2 _ D.TOz).trans q⟩
    · have lt : c < s.heap.objs.size := by
        have which : c = z ∨ c = TI ∨ c = TO ∨ c = i1 ∨ c = i2 := by simpa using m
        rcases which with rfl | rfl | rfl | rfl | rfl
        · exact lz
        · exact Heap.lt_size hTI
        · exact Heap.lt_size hTO
        · obtain ⟨_, q, _⟩ := h1
          exact Heap.lt_size q
        · obtain ⟨_, q, _⟩ := h2
          exact Heap.lt_size q
      rw [upd_ne (Nat.ne_of_lt lt)]
      exact (fp c m).1
  done := by
    intro X e1 e2 e3 calm i pins s σ H E I fp st stop
    subst e1 e2 e3
    obtain ⟨hz, hTI, ⟨a, b, hTO⟩, h1, h2⟩ := st
    have fin : x.cps[i]? = none ∨ y.cps[i]? = none := stop.imp Array.getElem?_eq_none Array.getElem?_eq_none
    have out : ∀ c, c ∉ [z, TI, TO, i1, i2] → c ≠ z ∧ c ≠ TO ∧ c ≠ i1 ∧ c ≠ i2 := fun c n => by
      simp only [List.mem_cons, List.not_mem_nil, or_false, not_or] at n
      exact ⟨n.1, n.2.2.1, n.2.2.2.1, n.2.2.2.2⟩
    exact PSZ.next_zipS_end (I.ok.hd calm) D (PSZ.textTy x) (PSZ.textTy y) hz hTI hTO h1 h2 fin fun g m k => ⟨rfl, I.turnedL (t' := m) (ch := [z, TI, TO, i1, i2]) (fun c o n q => k c o (out c n).1 (out c n).2.1 (out c n).2.2.1 (out c n).2.2.2 q) fp⟩
  self := fun A i s Q E st h => wpAny_pyIter_zip st.1 h
def iZipS (ta : TA) : TI := fun σ H R => ta σ H fun vs H1 => ∃ x y, vs = [.str x, .str y] ∧ R (Itzs x y) H1
theorem pi_zipS {X : Cx} {e e2 : Expr} {ta : TA} {p pos tp : Pos} {tg : List Expr} {n : Nat} (hg : Gl X "zip") (hm : X.mg "zip" = none) (ha : PA X [e, e2] ta)
    (se : starEach [e, e2] X.env = (false, eval e X.env) :: starEach [e2] X.env := by rfl) (sn : (backTo pos (starEach [e2] X.env)).any (·.1) = false := by rfl) :
    PI X (.Tuple tg n tp) (.Call (.Name "zip" p) [e, e2] [] pos) (iZipS ta) := by
  refine ⟨fun pins s σ H R I h => ?_⟩
  refine PyProof.Rows.Call_ (ld_blt I hg hm PyProof.Rows.boot_zip (PyProof.Rows.callWith_type1 (thn (ha.run pos pins s σ H _ I h) fun us s1 ⟨vs, H1, I1, r1, x, y, ev, q⟩ => ?_) se sn))
  subst ev
  obtain ⟨u1, u2, rfl, rx, ry⟩ := vals2 r1
  obtain ⟨t, rfl⟩ := rx
  obtain ⟨u, rfl⟩ := ry
  have pos0 : 0 < s1.heap.objs.size := Nat.lt_of_le_of_lt (Nat.zero_le _) I1.big
  refine PSZ.call_zipS fun g hz hTI hTO h1 h2 k => wpAny_pyIter_zip hz ?_
  have I2 : Inv X pins σ H1 { s1 with heap := g } := I1.kept (t' := s1.toks) k
  refine ⟨s1.heap.objs.size + 4, [s1.heap.objs.size + 4, s1.heap.objs.size + 2, s1.heap.objs.size + 3, s1.heap.objs.size, s1.heap.objs.size + 1], _, _, H1, rfl, I2, turn_zipS (PySem.W.ktu_apart s1.heap.objs.size 0 0 pos0 pos0), ⟨hz, hTI, ⟨_, _, hTO⟩, h1, h2⟩, fun c m => ?_, q⟩
  have le : s1.heap.objs.size ≤ c := by
    simp only [List.mem_cons, List.not_mem_nil, or_false] at m
    rcases m with z | z | z | z | z
    · exact z ▸ Nat.le_add_right _ _
    · exact z ▸ Nat.le_add_right _ _
    · exact z ▸ Nat.le_add_right _ _
    · exact z ▸ Nat.le_refl _
    · exact z ▸ Nat.le_add_right _ _
  exact I1.fpOk le (I1.hok.fresh le)
/-- a loop over the pairs of two texts -/
theorem for_zipS {x y : Str} {g : TG} {tb : TS} {D : Ends} {σ : L2.St} {H : Hp} (Pv : Nat → L2.St → Hp → Prop) (h0 : Pv 0 σ H)
    (hs : ∀ (i c d : Nat) (T : Addr) (σ : L2.St) (H : Hp), x.cps[i]? = some c → y.cps[i]? = some d → Pv i σ H → H T = none → g (.ref T) σ (upd H T (.tup [.str ⟨#[c]⟩, .str ⟨#[d]⟩])) fun σ2 H2 => tb { D with nx := Pv (i + 1), ct := Pv (i + 1), bk := D.nx } σ2 H2)
    (hd : ∀ i σ H, x.cps.size ≤ i ∨ y.cps.size ≤ i → i ≤ x.cps.size → i ≤ y.cps.size → Pv i σ H → D.nx σ H) :
    ∃ W : Nat → Nat → L2.St → Hp → Prop, (∃ m, W 0 m σ H) ∧ ∀ i m σ H, W i m σ H →
      ((Itzs x y).stop i H ∧ D.nx σ H) ∨ ((Itzs x y).go i H ∧ ∃ N : L2.St → Hp → Prop, (∀ σ' H', N σ' H' → ∃ m', m' < m ∧ W (i + 1) m' σ' H') ∧ ∀ v H', (Itzs x y).yld i H v H' → g v σ H' fun σ2 H2 => tb { D with nx := N, ct := N, bk := D.nx } σ2 H2) := by
  refine ⟨fun i m σ H => m = x.cps.size - i ∧ i ≤ x.cps.size ∧ i ≤ y.cps.size ∧ Pv i σ H, ⟨x.cps.size, rfl, Nat.zero_le _, Nat.zero_le _, h0⟩, ?_⟩
  rintro i m σ H ⟨rfl, l1, l2, p⟩
  by_cases go : i < x.cps.size ∧ i < y.cps.size
  · refine .inr ⟨go, Pv (i + 1), fun σ' H' p' => ⟨x.cps.size - (i + 1), by omega, rfl, go.1, go.2, p'⟩, fun v H' yl => ?_⟩
    obtain ⟨T, c, d, rfl, hT, rfl, e1, e2⟩ := yl
    exact hs i c d T σ H e1 e2 p hT
  · have fin : x.cps.size ≤ i ∨ y.cps.size ≤ i := by omega
    exact .inl ⟨fin, hd i σ H fin l1 l2 p⟩
end PSG

set_option Elab.async false
set_option linter.all false
set_option maxRecDepth 100000
set_option maxHeartbeats 4000000
namespace PSG
open PySem PySem.Spec L2
open PyProof.Rows (IntsAre AllBare)
/-! ### own exceptions of any base, raised -/
/-- what an exception that is held bears: its dict, if it has attributes -/
def ExS (H : Hp) (d : Option Addr) (fs : List (Str × V)) : Prop := (d = none ∧ fs = []) ∨ ∃ dx, d = some dx ∧ fs ≠ [] ∧ H dx = some (exd dx fs)
theorem ExS.same {H H' : Hp} {d : Option Addr} {fs : List (Str × V)} (x : ExS H d fs) (s : Same H H') : ExS H' d fs := by
  rcases x with x | ⟨dx, e, n, h⟩
  · exact .inl x
  · exact .inr ⟨dx, e, n, s _ _ h⟩
/-- the new exception is no longer tracked, its dict stands -/
theorem let_go {X : Cx} {pins : List (Addr × Obj)} {σ : L2.St} {H1 H2 : Hp} {hp hp2 h2 : Heap} {g1 g2 : Array GenState} {r1 r2 : Drawn} {t1 t2 : Nat} {os1 os2 : OsState} {a C : Addr} {d : Option Addr} (I : Inv X pins σ H1 ⟨hp, g1, r1, t1, os1⟩)
    (above : hp.objs.size ≤ a) (old : ∀ b o, hp.get? b = some o → hp2.get? b = some o) (un : Un (frs X.stack) [] (upd H1 a (exo a C none)) H2 hp2 h2) (hok : HOk X.prog X.w H2 h2) (eos : os2 = os1) (bare : AllBare g2) (ea : H2 a = some (exo a C d)) :
    ∃ (t0 : Addr) (G : Heap), Inv X pins σ (del H2 a) ⟨G, g2, r2, t2, os2⟩ ∧ (∀ b o, G.get? b = some o → h2.get? b = some o) ∧ G.get? a = none ∧
      h2.get? a = some ({ cls := .ref C, dict := d, data := .fields #[.ref t0, .none, .none, .none, .bool false, .none] } : Obj) := by
  obtain ⟨t0, at_⟩ := exo_at hok ea
  have n1 : H1 a = none := I.hok.fresh above
  obtain ⟨G, yes, no⟩ := restrict h2 fun b => decide (b ≠ a)
  have gk : ∀ b, b ≠ a → G.get? b = h2.get? b := fun b n => yes b (decide_eq_true n)
  have ga : G.get? a = none := no a (by simp)
  have off : ∀ {b : Addr} {o : Obj}, hp.get? b = some o → b ≠ a := fun {b o} z => Nat.ne_of_lt (Nat.lt_of_lt_of_le (Heap.lt_size z) above)
  have up : ∀ {b : Addr} {u : Option HO}, b ≠ a → H1 b = u → upd H1 a (exo a C none) b = u := fun {b u} n e => (upd_ne n).trans e
  have U : Un (frs X.stack) [] H1 (del H2 a) hp G := {
    keep := fun b o z n f x => (gk b (off z)).trans (un.keep b o (old b o z) (up (off z) n) f x)
    slot := fun b o z n f x => by
      rw [gk b (off z)]
      exact un.slot b o (old b o z) (up (off z) n) f x
    free := fun b o z n x => (del_ne (off z)).trans (un.free b o (old b o z) (up (off z) n) x)
    there := fun b o z x => by
      rw [gk b (off z)]
      exact un.there b o (old b o z) x
    tups := fun b xs z => (del_ne (ne_of_none z n1)).trans (un.tups b xs (up (ne_of_none z n1) z))
    frzs := fun b o v z => (del_ne (ne_of_none z n1)).trans (un.frzs b o v (up (ne_of_none z n1) z))
    tbls := fun b ps z => by
      rw [del_ne (ne_of_none z n1)]
      exact un.tbls b ps (up (ne_of_none z n1) z) }
  have hok2 : HOk X.prog X.w (del H2 a) G := fun b o z => by
    have nb : b ≠ a := fun e => by
      rw [e, del_same] at z
      cases z
    rw [del_ne nb] at z
    refine (hok b o z).stay (fun c v hc y => ?_) (fun c hc => (del_ne (at_ne ea hc exo_own)).trans hc) fun c xs hc => (del_ne (at_ne ea hc exo_tup)).trans hc
    have nc : c ≠ a := by
      rcases hc with hc | hc
      · rw [hc]
        exact nb
      · exact at_ne ea hc exo_own
    exact (gk c nc).trans y
  refine ⟨t0, G, I.call' (ch := []) eos U hok2 bare (fun b z => absurd z (by simp)), fun b o z => ?_, ga, at_⟩
  by_cases e : b = a
  · rw [e, ga] at z
    cases z
  · exact (gk b e).symm.trans z
/-- C(e, ..): the exception's class, its dict, and what the state is then -/
def tPmk (C : Addr) (fn : List Str) (t : TA) : L2.St → Hp → XK → Prop := fun σ H Q => t σ H fun vs H1 => vs.length = fn.length ∧ fn.length ≤ 1000 ∧ ∀ d H3, Same H1 H3 → ExS H3 d (fn.zip vs).reverse → Q (.ref C) d H3
section
variable {X : Cx} {x : Str} {C fI : Addr} {n : Nat} {fd : FuncData} {ps fn : List Str} {B newId initId : String} {bmB : List Value} {p pos : Pos}
theorem pmade {pins : List (Addr × Obj)} {σ : L2.St} {H1 : Hp} {hp : Heap} {g : Array GenState} {dr : Drawn} {tk : Nat} {os : OsState} {Q : XK} {us : List Value} {vs : List V} (T : Xk X.K C fI B newId initId bmB)
    (F : FnOk X.prog X.w X.K X.mg X.base CX0 n fI fd ps (spXI C fn)) (room : Room (n + 1) X.A) (I1 : Inv X pins σ H1 ⟨hp, g, dr, tk, os⟩) (lay : List Value)
    (bi : ∀ s : Shared, X.K.In s.heap → BindsTo s fd ⟨Value.ref (hp.objs.size + 1) :: us, []⟩ (ps.zip (.ref (hp.objs.size + 1) :: us))) (va : Vals vs us) (len : vs.length = fn.length)
    (ho : ∀ d H3, Same H1 H3 → ExS H3 d (fn.zip vs).reverse → Q (.ref C) d H3) :
    codeAny (model X.prog X.w) (X.A.under (.builtin "type.__call__" ⟨.ref C :: lay, []⟩)) (.call (.ref fI) ⟨Value.ref (hp.objs.size + 1) :: us, []⟩)
      (PySem.W.InitBack (hp.objs.size + 1) fun r s' => match r with | .ok (.ret v) => MkP X pins σ Q v s' | .ok _ => False | .error e => X.xe e s')
      ⟨(hp.push (PySem.W.kdv_tup lay)).push (PySem.HandSPX.excO C hp.objs.size), g, dr, tk, os⟩ := by
  have big : hp.objs.size ≤ hp.objs.size + 1 := Nat.le_succ _
  have free : H1 (hp.objs.size + 1) = none := I1.hok.fresh big
  have old : ∀ b o, hp.get? b = some o → ((hp.push (PySem.W.kdv_tup lay)).push (PySem.HandSPX.excO C hp.objs.size)).get? b = some o := fun b o e => Heap.get?_push_of_some _ (Heap.get?_push_of_some _ e)
  have new : ((hp.push (PySem.W.kdv_tup lay)).push (PySem.HandSPX.excO C hp.objs.size)).get? (hp.objs.size + 1) = some (PySem.HandSPX.excO C hp.objs.size) := by heap_get
  have I2 := I1.laid (t' := tk) (a := hp.objs.size + 1) (o := exo (hp.objs.size + 1) C none) (h' := (hp.push (PySem.W.kdv_tup lay)).push (PySem.HandSPX.excO C hp.objs.size)) old big (exo_ok new)
  refine codeAny_mono (F.run _ X.stack _ _ _ (Value.ref (hp.objs.size + 1) :: us) (V.ref (hp.objs.size + 1) :: vs) (fun v H2 => v = .non ∧ (∀ b o, b ≠ hp.objs.size + 1 → H1 b = some o → H2 b = some o) ∧ ExV H2 (hp.objs.size + 1) C (fn.zip vs).reverse) (fun _ _ _ => False)
    (room.make C lay []) (I2.env0.make C lay []) (bi _ I2.kIn) (.cons rfl va) ⟨_, vs, rfl, len, upd_same, fun H2 k ex => ⟨rfl, fun b o nb e => k b o nb ((upd_ne nb).trans e), ex⟩⟩) fun r s' z => ?_
  match r, z with
  | .ok (.ret u), z =>
    obtain ⟨v, H2, eos, bare, un, hok, rel, ev, k, ex⟩ := z
    subst ev
    obtain ⟨h2, g2, r2, t2, os2⟩ := s'
    have fin : ∀ d, H2 (hp.objs.size + 1) = some (exo (hp.objs.size + 1) C d) → ExS (del H2 (hp.objs.size + 1)) d (fn.zip vs).reverse → MkP X pins σ Q (.ref (hp.objs.size + 1)) ⟨h2, g2, r2, t2, os2⟩ := fun d ea xs => by
      obtain ⟨t0, G, J, sub, ga, at_⟩ := let_go (r2 := r2) (t2 := t2) I1 big old un hok eos bare ea
      refine ⟨hp.objs.size + 1, _, _, ⟨G, g2, r2, t2, os2⟩, _, .ref C, d, rfl, J, sub, ga, at_, ⟨rfl, rfl⟩, rfl, rfl, del_same, rfl, bare, raises_own T.exc T.ty, ho d _ (fun b o e => ?_) xs⟩
      have nb : b ≠ hp.objs.size + 1 := ne_of_none e free
      exact (del_ne nb).trans (k b o nb e)
    refine ⟨rel, ?_⟩
    rcases ex with ⟨e, ea⟩ | ⟨d, e, ea, ed⟩
    · exact fin none ea (.inl ⟨rfl, e⟩)
    · refine fin (some d) ea (.inr ⟨d, rfl, e, (del_ne fun z => ?_).trans ed⟩)
      obtain ⟨t0, at_⟩ := exo_at hok ea
      obtain ⟨mA, ⟨o, es, ep, e1, e2, _⟩, _⟩ := exd_at hok ed
      rw [z, at_] at e1
      have e3 := Option.some.inj e1
      subst e3
      cases e2
  | .ok .next, z => exact z.elim
  | .ok .brk, z => exact z.elim
  | .ok .cont, z => exact z.elim
  | .error er, z => exact z.elim
theorem pmk_xk {e : Expr} {es : List Expr} {t : TA} (T : Xk X.K C fI B newId initId bmB) (F : FnOk X.prog X.w X.K X.mg X.base CX0 n fI fd ps (spXI C fn)) (room : Room (n + 1) X.A) (bi : Binds X.K fd ps []) (hps : ps.length = fn.length + 1)
    (hg : Gl X x) (hm : X.mg x = some (.ref C)) (ha : PA X (e :: es) t) (nd : (x == ("__debug__" : Str)) = false := by decide)
    (se : starEach (e :: es) X.env = (false, eval e X.env) :: starEach es X.env := by rfl) (sn : (backTo pos (starEach es X.env)).any (·.1) = false := by rfl) :
    PMk X (.Call (.Name x p) (e :: es) [] pos) (tPmk C fn t) := by
  intro pins s σ H Q I h
  refine wpAny_Call_Name_kw (ld_glob I hg hm ?_ nd)
  refine PySem.W.callWith_K (h₀ := X.base) I.ok.mod.kin T.keep (thn (ha.run pos pins s σ H _ I h) fun us s1 ⟨vs, H1, I1, r1, hl, hz, q1⟩ => ⟨I1.kIn, ?_⟩) se sn
  show wpAny _ _ (call (.ref C) us) _ _ _
  obtain ⟨hp, g, dr, tk, os⟩ := s1
  obtain ⟨nm, N, qn, bs, bm, hdct, sb, sub, ab, col, dd, k0, k1, k2, k3, k5, hC, same⟩ := PySem.W.excInit_of I1.kIn T.made
  have lu : us.length = fn.length := r1.length.symm.trans hl
  refine wpAny_call (PySem.HandSPX.call_own T.fb same hC (PySem.W.looks_findIn I1.kIn T.init) (fun self => PySem.W.bind_fn I1.kIn self T.fn) (by rw [sizeLine_eq]; omega) ?_)
  refine codeAny_mono (pmade (Q := Q) T F room I1 us (us := us) (fun s2 k2 => ?_) r1 hl q1) fun r s' z => z
  have z := bi s2 (Value.ref (hp.objs.size + 1) :: us) k2 (by rw [List.append_nil, List.length_cons, lu, hps])
  rw [List.append_nil] at z
  exact z
theorem pmk_xk0 (T : Xk X.K C fI B newId initId bmB) (F : FnOk X.prog X.w X.K X.mg X.base CX0 n fI fd ps (spXI C [])) (room : Room (n + 1) X.A) (bi : Binds X.K fd ps []) (hps : ps.length = 1)
    (hg : Gl X x) (hm : X.mg x = some (.ref C)) (nd : (x == ("__debug__" : Str)) = false := by decide) : PMk X (.Call (.Name x p) [] [] pos) (tPmk C [] tNil) := by
  intro pins s σ H Q I h
  refine wpAny_Call_Name_kw (ld_glob I hg hm ?_ nd)
  refine PySem.W.callWith_K0 I.kIn T.keep ?_
  obtain ⟨hp, g, dr, tk, os⟩ := s
  obtain ⟨nm, N, qn, bs, bm, hdct, sb, sub, ab, col, dd, k0, k1, k2, k3, k5, hC, same⟩ := PySem.W.excInit_of I.kIn T.made
  refine wpAny_call (PySem.HandSPX.call_own T.fb same hC (PySem.W.looks_findIn I.kIn T.init) (fun self => PySem.W.bind_fn I.kIn self T.fn) (Nat.zero_le _) ?_)
  refine codeAny_mono (pmade (Q := Q) (vs := []) T F room I [] (us := []) (fun s2 k2 => ?_) .nil rfl h.2.2) fun r s' z => z
  exact bi s2 [Value.ref (hp.objs.size + 1)] k2 (by rw [List.append_nil, hps]; rfl)
end
/-! ### in an except suite -/
section
variable {X : Cx} {a : Addr} {oe : Obj} {cls : Value} {d : Option Addr} {pn : List (Addr × Obj)}
theorem held {D : Addr} {fs : List (Str × V)} {pins : List (Addr × Obj)} {σ : L2.St} {H : Hp} {s : Shared} (hz : Zc (.ref D) d oe) (hf : ∃ vs, oe.data = .fields vs) (I : Inv (X.suite a ((a, oe) :: pn)) pins σ H s) (x : ExS H d fs) :
    ∃ od, PySem.W.InstAt s.heap a oe D od := by
  obtain ⟨vs, hv⟩ := hf
  obtain ⟨at_, _⟩ := I.pin (a, oe) (List.mem_append_left _ List.mem_cons_self)
  have nc : PySem.W.notCls oe = true := by
    unfold PySem.W.notCls
    rw [hv]
  rcases x with ⟨rfl, _⟩ | ⟨dx, rfl, _, h⟩
  · exact ⟨none, at_, hz.1, nc, by rw [hz.2]; trivial⟩
  · obtain ⟨mA, hns, _⟩ := exd_at I.hok h
    obtain ⟨o, ho, _⟩ := lookIn_ns hns
    exact ⟨some o, at_, hz.1, nc, by rw [hz.2]; exact ho⟩
/-- isinstance(e, c) and isinstance(e, (c, ..)) of the exception that is held -/
def rHis (K : PySem.W.Frag) (a : Addr) (cls : Value) (d : Option Addr) : List V → Hp → VK → Prop := fun xs H Q => ∃ (D : Addr) (fs : List (Str × V)) (b : Bool), cls = .ref D ∧ ExS H d fs ∧ PySem.W.XcC K D ∧
  ((∃ (c : V) (u : Value), xs = [.ref a, c] ∧ ClsV c u ∧ PySem.W.kitOne K (.ref D) u = some b) ∨ ∃ (tp : Addr) (cs : List V) (us : List Value), xs = [.ref a, .ref tp] ∧ H tp = some (.tup cs) ∧ Paired ClsV cs us ∧ PySem.W.kitAny K (.ref D) us = some b) ∧ Q (.bl b) H
theorem call_his (hz : Zc cls d oe) (hf : ∃ vs, oe.data = .fields vs) : CallR (X.suite a ((a, oe) :: pn)) (.builtin "isinstance") (rHis X.K a cls d) := by
  intro pins s σ H xs us Q I r h
  obtain ⟨D, fs, b, rfl, x, T, k, q⟩ := h
  obtain ⟨od, J⟩ := held hz hf I x
  rcases k with ⟨c, u, rfl, k, e⟩ | ⟨tp, cs, ws, rfl, hT, k, e⟩
  · obtain ⟨u1, u2, rfl, r1, r2⟩ := vals2 r
    cases r1
    have e2 := k.eq r2
    subst e2
    exact PySem.W.kia_one (T.kit (x := a) (ox := oe)) I.kIn ⟨od, J⟩ e (fun z => nomatch z) fun tk => ⟨.bl b, H, I.tok tk, rfl, q⟩
  · obtain ⟨u1, u2, rfl, r1, r2⟩ := vals2 r
    cases r1
    cases r2
    obtain ⟨_, its, rv, o, h1, h2, n, h3⟩ := (show ObjOk X.prog X.w H s.heap tp (.tup cs) from I.hok tp _ hT)
    have e3 := ClsV.all k rv
    subst e3
    obtain ⟨oc, oD, dt, sl⟩ := o
    simp only at h2 h3
    subst h2 h3
    exact PySem.W.kia_tup (T.kit (x := a) (ox := oe)) I.kIn ⟨od, J⟩ h1 e (fun z => nomatch z) fun tk => ⟨.bl b, H, I.tok tk, rfl, q⟩
/-- e.n of the exception that is held -/
def tHfld (K : PySem.W.Frag) (a : Addr) (cls : Value) (d : Option Addr) (n : Str) (te : TE) : TE := fun σ H Q => te σ H fun x H1 => ∃ (D : Addr) (fs : List (Str × V)) (v : V), x = .ref a ∧ cls = .ref D ∧ ExS H1 d fs ∧ PySem.W.XcC K D ∧ PySem.W.findIn K (.ref D) n = some none ∧ fs.lookup n = some v ∧ Q v H1
theorem pe_hfld {e : Expr} {te : TE} {pos : Pos} {n : Str} (hz : Zc cls d oe) (hf : ∃ vs, oe.data = .fields vs) (he : PE (X.suite a ((a, oe) :: pn)) e te) (hb : attributeBase e n X.env (eval e X.env) = eval e X.env := by rfl) :
    PE (X.suite a ((a, oe) :: pn)) (.Attribute e n pos) (tHfld X.K a cls d n te) where
  run := fun pins s σ H Q I h => by
    refine attr_of hb (thn (he.run pins s σ H _ I h) fun u s1 hh => ?_)
    obtain ⟨x, H1, I1, rx, D, fs, v, ex, ec, xs, T, no, l, q⟩ := hh
    subst ex ec
    cases rx
    rcases xs with ⟨_, e⟩ | ⟨dx, ed, _, h2⟩
    · rw [e] at l
      cases l
    · subst ed
      obtain ⟨vs, hv⟩ := hf
      obtain ⟨at_, _⟩ := I1.pin (a, oe) (List.mem_append_left _ List.mem_cons_self)
      obtain ⟨mA, hns, rel⟩ := exd_at I1.hok h2
      obtain ⟨o, ho, look⟩ := lookIn_ns hns
      obtain ⟨w, hw, rw_⟩ := RelO.some_of (v := v) (o := mA n) (by rw [← l]; exact rel n)
      have J : PySem.W.InstAt s1.heap a oe D (some o) := ⟨at_, hz.1, by unfold PySem.W.notCls; rw [hv] <;> rfl, by rw [hz.2]; exact ho⟩
      exact PySem.HandSPX.exc_get I1.kIn J T.get T.get2 T.exc (PySem.W.findObj_own T.dict no rfl (by rw [look, hw])) (handed_of rw_) ⟨v, H1, I1.tok _, rw_, q⟩
end
/-! ### f(k = v, ..) of a def that may raise -/
section
variable {X : Cx} {CT : CXT} {k : Nat} {f : Addr} {fd : FuncData} {ps ks : List Str} {sp : Sp} {E : L2.St → XK} {x : Str} {p pos : Pos} {kws : List Keyword} {t : TA}
theorem pe_callW (F : FnOk X.prog X.w X.K X.mg X.base CT k f fd ps sp) (room : Room k X.A) (hg : Gl X x) (hm : X.mg x = some (.ref f)) (keep : PySem.W.keepIn X.K (.ref f) = true)
    (bi : ∀ (s : Shared) (ws : List Value), X.K.In s.heap → ws.length = ks.length → BindsTo s fd ⟨[], ks.zip ws⟩ (ps.zip ws)) (lk : ks.length = ps.length) (pass : ∀ σ, PassesAt CT X σ (E σ))
    (ha : PK X kws t) (hall : (backToKw pos (keywordEach kws X.env)).all (·.1.isSome) = true := by rfl) (hks : (backToKw pos (keywordEach kws X.env)).filterMap (·.1) = ks := by rfl)
    (nd : (x == ("__debug__" : Str)) = false := by decide) (sn : ((backTo pos (starEach [] X.env)).any (·.1) || (backToKw pos (keywordEach kws X.env)).any (·.1.isNone)) = false := by rfl) :
    PE X (.Call (.Name x p) [] kws pos) (tCallS sp E t) where
  run := fun pins s σ H Q I h => by
    refine wpAny_Call_Name_kw (ld_glob I hg hm ?_ nd)
    refine PySem.W.callWith_KW0 (h₀ := X.base) I.ok.mod.kin keep hall (thn (ha.run pos pins s σ H _ I h) fun ws s1 ⟨vs, H1, I1, r1, q1⟩ => ⟨I1.kIn, ?_⟩) sn
    rw [hks]
    show wpAny _ _ (call (.ref f) [] (ks.zip ws)) _ _ _
    have lw : ws.length = ks.length := (r1.length.symm.trans (F.len _ _ _ _ q1)).trans lk.symm
    refine wpAny_call (codeAny_mono (F.run X.A X.stack s1 H1 ⟨[], ks.zip ws⟩ ws vs Q (E σ) room I1.env0 (bi s1 ws I1.kIn lw) r1 q1) fun r s' z => ?_)
    match r, z with
    | .error er, z => exact pass σ pins H1 s1 er s' I1 z
    | .ok (.ret u), z => exact I1.after z
end
end PSG

set_option Elab.async false
set_option linter.all false
set_option maxRecDepth 100000
set_option maxHeartbeats 4000000
namespace PSG
open PySem PySem.Spec L2
open PyProof.Rows (IntsAre AllBare)
/-- repr(x) of data, also in an except suite -/
theorem call_reprH {X : Cx} (un : X.A.units + 200 < cLine) (gd : X.A.guards = some []) : CallR X (.builtin "repr") rRep := by
  intro pins s σ H xs us Q I r ho
  obtain ⟨x, d, far, rfl, dq, cl, sh, sz, dp, q⟩ := ho
  obtain ⟨u, rfl, rx⟩ := vals1 r
  obtain ⟨as, rd, no1⟩ := dq.reads I rx
  have nosys : d.hasDict = true → sysModules ∉ as := fun z => no1 (cl z)
  have fin : ∀ t, EP X pins σ Q (.str d.shown t) s := fun t => ⟨.str _, H, I, ⟨_, rfl⟩, q⟩
  have got : ∀ h' (t tk : Tok), (∀ b o, s.heap.get? b = some o → h'.get? b = some o) → EP X pins σ Q (.str d.shown t) { s with heap := h', toks := tk } := fun h' t tk k => ⟨.str _, H, I.kept k, ⟨_, rfl⟩, q⟩
  cases rd with
  | none => exact P.repr_of_none ⟨.str _, H, I.tok _, ⟨_, rfl⟩, by simpa only [PyData.shown] using q⟩
  | bool b =>
    refine P.repr_of_bool ⟨.str _, H, I.tok _, ⟨_, rfl⟩, ?_⟩
    simp only [PyData.shown] at q
    cases b <;> exact q
  | int i t => exact P.repr_of_int (by simpa [PyData.showable] using sh) ⟨.str _, H, I.tok _, ⟨_, rfl⟩, by simpa only [PyData.shown] using q⟩
  | str z t =>
    simp only [PyData.shown] at q sz
    exact P.repr_of_str ⟨.str _, H, I.tok _, ⟨_, rfl⟩, q⟩ sz
  | list h1 h2 h3 h4 => exact repr_of_reads' (Reads.list h1 h2 h3 h4) sh nosys gd (by omega) (fun _ _ z => z) (fun h' u tk k => got h' _ tk k) sz
  | tuple h1 h2 h3 h4 => exact repr_of_reads' (Reads.tuple h1 h2 h3 h4) sh nosys gd (by omega) (fun _ _ z => z) (fun h' u tk k => got h' _ tk k) sz
  | dict h1 h2 h3 h4 h5 => exact repr_of_reads' (Reads.dict h1 h2 h3 h4 h5) sh nosys gd (by omega) (fun _ _ z => z) (fun h' u tk k => got h' _ tk k) sz
theorem room_units {n : Nat} {A : Around} (r : Room n A) : A.units + 200 < cLine := by
  have h := r.un
  omega
end PSG

set_option Elab.async false
set_option linter.all false
set_option maxRecDepth 100000
set_option maxHeartbeats 4000000
namespace PSG
open PySem PySem.Spec L2
open PyProof.Rows (IntsAre AllBare)
/-! ### the exception that is held, where a pin bears it -/
section
variable {X : Cx} {a : Addr} {oe : Obj} {cls : Value} {d : Option Addr}
theorem heldP {D : Addr} {fs : List (Str × V)} {pins : List (Addr × Obj)} {σ : L2.St} {H : Hp} {s : Shared} (hp : (a, oe) ∈ X.pn) (hz : Zc (.ref D) d oe) (hf : ∃ vs, oe.data = .fields vs) (I : Inv X pins σ H s) (x : ExS H d fs) :
    ∃ od, PySem.W.InstAt s.heap a oe D od := by
  obtain ⟨vs, hv⟩ := hf
  obtain ⟨at_, _⟩ := I.pin (a, oe) (List.mem_append_left _ hp)
  have nc : PySem.W.notCls oe = true := by
    unfold PySem.W.notCls
    rw [hv]
  rcases x with ⟨rfl, _⟩ | ⟨dx, rfl, _, h⟩
  · exact ⟨none, at_, hz.1, nc, by rw [hz.2]; trivial⟩
  · obtain ⟨mA, hns, _⟩ := exd_at I.hok h
    obtain ⟨o, ho, _⟩ := lookIn_ns hns
    exact ⟨some o, at_, hz.1, nc, by rw [hz.2]; exact ho⟩
theorem call_hisP (hp : (a, oe) ∈ X.pn) (hz : Zc cls d oe) (hf : ∃ vs, oe.data = .fields vs) : CallR X (.builtin "isinstance") (rHis X.K a cls d) := by
  intro pins s σ H xs us Q I r h
  obtain ⟨D, fs, b, rfl, x, T, k, q⟩ := h
  obtain ⟨od, J⟩ := heldP hp hz hf I x
  rcases k with ⟨c, u, rfl, k, e⟩ | ⟨tp, cs, ws, rfl, hT, k, e⟩
  · obtain ⟨u1, u2, rfl, r1, r2⟩ := vals2 r
    cases r1
    have e2 := k.eq r2
    subst e2
    exact PySem.W.kia_one (T.kit (x := a) (ox := oe)) I.kIn ⟨od, J⟩ e (fun z => nomatch z) fun tk => ⟨.bl b, H, I.tok tk, rfl, q⟩
  · obtain ⟨u1, u2, rfl, r1, r2⟩ := vals2 r
    cases r1
    cases r2
    obtain ⟨_, its, rv, o, h1, h2, n, h3⟩ := (show ObjOk X.prog X.w H s.heap tp (.tup cs) from I.hok tp _ hT)
    have e3 := ClsV.all k rv
    subst e3
    obtain ⟨oc, oD, dt, sl⟩ := o
    simp only at h2 h3
    subst h2 h3
    exact PySem.W.kia_tup (T.kit (x := a) (ox := oe)) I.kIn ⟨od, J⟩ h1 e (fun z => nomatch z) fun tk => ⟨.bl b, H, I.tok tk, rfl, q⟩
theorem pe_hfldP {e : Expr} {te : TE} {pos : Pos} {n : Str} (hp : (a, oe) ∈ X.pn) (hz : Zc cls d oe) (hf : ∃ vs, oe.data = .fields vs) (he : PE X e te) (hb : attributeBase e n X.env (eval e X.env) = eval e X.env := by rfl) :
    PE X (.Attribute e n pos) (tHfld X.K a cls d n te) where
  run := fun pins s σ H Q I h => by
    refine attr_of hb (thn (he.run pins s σ H _ I h) fun u s1 hh => ?_)
    obtain ⟨x, H1, I1, rx, D, fs, v, ex, ec, xs, T, no, l, q⟩ := hh
    subst ex ec
    cases rx
    rcases xs with ⟨_, e⟩ | ⟨dx, ed, nn, h2⟩
    · rw [e] at l
      cases l
    · obtain ⟨od, J⟩ := heldP hp hz hf I1 (.inr ⟨dx, ed, nn, h2⟩)
      subst ed
      obtain ⟨mA, hns, rel⟩ := exd_at I1.hok h2
      obtain ⟨o, ho, look⟩ := lookIn_ns hns
      obtain ⟨w, hw, rw_⟩ := RelO.some_of (v := v) (o := mA n) (by rw [← l]; exact rel n)
      obtain ⟨vs, hv⟩ := hf
      obtain ⟨at_, _⟩ := I1.pin (a, oe) (List.mem_append_left _ hp)
      have J2 : PySem.W.InstAt s1.heap a oe D (some o) := ⟨at_, hz.1, by unfold PySem.W.notCls; rw [hv] <;> rfl, by rw [hz.2]; exact ho⟩
      exact PySem.HandSPX.exc_get I1.kIn J2 T.get T.get2 T.exc (PySem.W.findObj_own T.dict no rfl (by rw [look, hw])) (handed_of rw_) ⟨v, H1, I1.tok _, rw_, q⟩
end
/-! ### a def that is called within an except suite, and may ask the exception that is held -/
structure FnE (P : Program) (w : World) (K : PySem.W.Frag) (mg : Str → Option Value) (base : Heap) (n : Nat) (at_ : Addr) (fd : FuncData) (ps : List Str) (sp : Addr × Obj → Sp) : Prop where
  many : ∀ p vs H Q E, sp p vs H Q E → vs.length = ps.length
  goes : ∀ (B : Around) (up : List Env) (s : Shared) (H : Hp) (ar : Args) (us : List Value) (vs : List V) (Q : VK) (E : XK) (p : Addr × Obj),
    L2H.RoomH n B → B.guards = some [] → L2H.PinOk up H s p → Env0 P w K mg base B up s H → BindsTo s fd ar (ps.zip us) → Vals vs us → sp p vs H Q E →
    codeAny (model P w) B (.call (.ref at_) ar) (CR CX0 up P w H s Q E) s
section
variable {P : Program} {w : World} {K : PySem.W.Frag} {mg : Str → Option Value} {base : Heap}
theorem fnE {n : Nat} {x ql : Str} {st : Stmt} {at_ : Addr} {fd : FuncData} {N ps : List Str} {sp : Addr × Obj → Sp} (F : Fun K x ql st at_ fd) (S : FnScope N ps (defScope st)) (many : ∀ p vs H Q E, sp p vs H Q E → vs.length = ps.length)
    (main : ∀ (cdv : Value) (B : Around) (up : List Env) (s : Shared) (H : Hp) (vs : List V) (Q : VK) (E : XK) (p : Addr × Obj), L2H.RoomH n (B.deeper (PyProof.Rows.envOfC ql (defScope st) s.heap.objs.size at_ cdv)) → B.guards = some [] → sp p vs H Q E →
      ∃ t, PSs (L2H.cxH CX0 P w K mg base N ql (defScope st) at_ cdv B up s H E p).nox (defBody st) t ∧ t { nx := fun _ G => Q .non G, rt := Q } (L2.start N vs) H) : FnE P w K mg base (n + 1) at_ fd ps sp where
  many := many
  goes := by
    obtain ⟨oc, od, kV, doc, pm, an, cdv, ct, osl, rfl, lk, hcd⟩ := F.ex
    intro B up s H ar us vs Q E p room gd pin en bi va ho
    have keepB : ∀ b o, base.get? b = some o → s.heap.get? b = some o := fun b o z => (en.bs b o z).1
    have atK := en.mod.kin.keeps keepB
    refine codeAny_call_function room.depth (atK _ _ lk) rfl S.co S.gen rfl (PySem.W.codeRec_of atK hcd) (bi _ _ _ _ ?_)
    refine wpAny_newFunctionEnv_cells S.kind (fun y hy => ?_) fun env he t1 x => ?_
    · obtain ⟨n, v⟩ := y
      cases S.par n (List.of_mem_zip hy).1 with
      | inl z => exact .inl z
      | inr z => exact .inr ⟨z, PySem.W.cellsFrom_some _ _ _ (.inl z)⟩
    · cases he
      refine ⟨(en.mod.nolimit.keeps keepB).keeps x.toInCall.keep, codeAny_func ?_⟩
      obtain ⟨t, der, rd⟩ := main cdv B up s H vs Q E p (room.deeper _) gd ho
      have J := L2H.inv_startH (CX := CX0) (E := E) S pin en (many _ _ _ _ _ ho) va x
      refine wpAny_mono (der.nox.run [] t1 _ H _ J rd) ?_ fun _ _ z => z
      intro fl t2 z
      cases fl with
      | next =>
        obtain ⟨_, G, J2, q⟩ := z
        exact ⟨V.non, G, J2.os, J2.bare, J2.base, J2.hok, rfl, q⟩
      | ret u =>
        obtain ⟨v, _, G, J2, rel, q⟩ := z
        exact ⟨v, G, J2.os, J2.bare, J2.base, J2.hok, rel, q⟩
      | brk => exact (show False from z.choose_spec.choose_spec.2).elim
      | cont => exact (show False from z.choose_spec.choose_spec.2).elim
end
/-- f(e, ..) in the suite -/
def tCallE (p : Addr × Obj) (sp : Addr × Obj → Sp) (t : TA) : TE := fun σ H Q => t σ H fun vs H1 => sp p vs H1 Q (fun _ _ _ => False)
section
variable {X : Cx} {n : Nat} {at_ : Addr} {fd : FuncData} {ps : List Str} {sp : Addr × Obj → Sp} {x : Str} {pa pos : Pos} {e : Expr} {es : List Expr} {t : TA} {p : Addr × Obj}
theorem pe_callE (F : FnE X.prog X.w X.K X.mg X.base n at_ fd ps sp) (hp : p ∈ X.pn) (room : L2H.RoomH n X.A) (gd : X.A.guards = some []) (hg : Gl X x) (hm : X.mg x = some (.ref at_)) (keep : PySem.W.keepIn X.K (.ref at_) = true)
    (bi : Binds X.K fd ps []) (ha : PA X (e :: es) t) (nd : (x == ("__debug__" : Str)) = false := by decide)
    (se : starEach (e :: es) X.env = (false, eval e X.env) :: starEach es X.env := by rfl) (sn : (backTo pos (starEach es X.env)).any (·.1) = false := by rfl) :
    PE X (.Call (.Name x pa) (e :: es) [] pos) (tCallE p sp t) where
  run := fun pins s σ H Q I h => by
    refine wpAny_Call_Name_kw (ld_glob I hg hm (PySem.W.callWith_K (h₀ := X.base) I.ok.mod.kin keep (thn (ha.run pos pins s σ H _ I h) fun us s1 ⟨vs, H1, I1, r, q⟩ => ⟨I1.kIn, ?_⟩) se sn) nd)
    have many : us.length = ps.length := r.length.symm.trans (F.many _ _ _ _ _ q)
    have b := bi s1 us I1.kIn (by rw [List.append_nil]; exact many)
    rw [List.append_nil] at b
    obtain ⟨g1, g2, g3, g4, g5⟩ := I1.pin p (List.mem_append_left _ hp)
    have pin : L2H.PinOk X.stack H1 s1 p := ⟨g1, g2, fun hm => (List.mem_cons.mp (I1.stkSub p.1 hm)).elim g3 g4, g5⟩
    refine wpAny_call (codeAny_mono (F.goes X.A X.stack s1 H1 ⟨us, []⟩ us vs Q (fun _ _ _ => False) p room gd pin I1.env0 b r q) fun r s' z => ?_)
    match r, z with
    | .error er, z => exact z.elim
    | .ok (.ret u), z => exact I1.after z
/-- .. as the suite's own wish, which knows the exception's class and dict alone -/
def tCallH (a : Addr) (cls : Value) (d : Option Addr) (sp : Addr × Obj → Sp) (t : TA) : TE := fun σ H Q => t σ H fun vs H1 => ∀ oe : Obj, Zc cls d oe → (∃ ws, oe.data = .fields ws) → sp (a, oe) vs H1 Q (fun _ _ _ => False)
theorem pe_callH {a : Addr} {oe : Obj} {cls : Value} {d : Option Addr} {pn : List (Addr × Obj)} (hz : Zc cls d oe) (hf : ∃ ws, oe.data = .fields ws) (F : FnE X.prog X.w X.K X.mg X.base n at_ fd ps sp) (room : Room n X.A) (gd : X.A.guards = some []) (hg : Gl X x) (hm : X.mg x = some (.ref at_))
    (keep : PySem.W.keepIn X.K (.ref at_) = true) (bi : Binds X.K fd ps []) (ha : PA (X.suite a ((a, oe) :: pn)) (e :: es) t) (nd : (x == ("__debug__" : Str)) = false := by decide)
    (se : starEach (e :: es) X.env = (false, eval e X.env) :: starEach es X.env := by rfl) (sn : (backTo pos (starEach es X.env)).any (·.1) = false := by rfl) :
    PE (X.suite a ((a, oe) :: pn)) (.Call (.Name x pa) (e :: es) [] pos) (tCallH a cls d sp t) where
  run := fun pins s σ H Q I h => by
    refine wpAny_Call_Name_kw (ld_glob (X := X.suite a ((a, oe) :: pn)) I hg hm (PySem.W.callWith_K (h₀ := X.base) I.ok.mod.kin keep (thn (ha.run pos pins s σ H _ I h) fun us s1 ⟨vs, H1, I1, r, q⟩ => ⟨I1.kIn, ?_⟩) se sn) nd)
    have q := q oe hz hf
    have many : us.length = ps.length := r.length.symm.trans (F.many _ _ _ _ _ q)
    have b := bi s1 us I1.kIn (by rw [List.append_nil]; exact many)
    rw [List.append_nil] at b
    obtain ⟨g1, g2, g3, g4, g5⟩ := I1.pin (a, oe) (List.mem_append_left _ List.mem_cons_self)
    have pin : L2H.PinOk X.stack H1 s1 (a, oe) := ⟨g1, g2, fun hm => (List.mem_cons.mp (I1.stkSub a hm)).elim g3 g4, g5⟩
    refine wpAny_call (codeAny_mono (F.goes (X.A.mark (some (.ref a))) X.stack s1 H1 ⟨us, []⟩ us vs Q (fun _ _ _ => False) (a, oe) ⟨room.dp, room.un⟩ gd pin I1.env0 b r q) fun r s' z => ?_)
    match r, z with
    | .error er, z => exact z.elim
    | .ok (.ret u), z => exact I1.after z
theorem room_hot {n : Nat} {A : Around} (r : Room n A) (h : Option Value) : L2H.RoomH n (A.mark h) := ⟨r.dp, r.un⟩
theorem roomH_units {n : Nat} {A : Around} (r : L2H.RoomH n A) : A.units + 200 < cLine := by
  have h := r.un
  omega
end
end PSG

set_option Elab.async false
set_option linter.all false
set_option maxRecDepth 100000
set_option maxHeartbeats 8000000
namespace PSG
open PySem PySem.Spec L2
open PyProof.Rows (IntsAre AllBare)
/-! ### what a thing is -/
def tyD : PyData → String
  | .none => "NoneType"
  | .bool _ => "bool"
  | .int _ => "int"
  | .str _ => "str"
  | .list _ => "list"
  | .tuple _ => "tuple"
  | .dict _ => "dict"
theorem Dt.ty {K : PySem.W.Frag} {far : Bool} {H : Hp} {v : V} {d : PyData} (h : Dt far H v d) : TyX K H v (.type (tyD d)) := by
  cases h with
  | non => exact .base .non
  | bl b => exact .base (.bl b)
  | int i => exact .base (.int i)
  | str x => exact .base (.str x)
  | lst e _ _ => exact .base (.lst e)
  | tup e _ => exact .base (.tup e)
  | dict e _ => exact .base (.dK e)
def isI : PyData → Bool
  | .int _ => true
  | .bool _ => true
  | _ => false
def isB : PyData → Bool
  | .bool _ => true
  | _ => false
def isS : PyData → Bool
  | .str _ => true
  | _ => false
theorem kit_int {K : PySem.W.Frag} (d : PyData) : PySem.W.kitOne K (.type (tyD d)) (.type "int") = some (isI d) := by cases d <;> kernel_rfl
theorem kit_bool {K : PySem.W.Frag} (d : PyData) : PySem.W.kitOne K (.type (tyD d)) (.type "bool") = some (isB d) := by cases d <;> kernel_rfl
theorem kit_str {K : PySem.W.Frag} (d : PyData) : PySem.W.kitOne K (.type (tyD d)) (.type "str") = some (isS d) := by cases d <;> kernel_rfl
def isT : PyData → Bool
  | .tuple _ => true
  | _ => false
theorem kit_tuple {K : PySem.W.Frag} (d : PyData) : PySem.W.kitOne K (.type (tyD d)) (.type "tuple") = some (isT d) := by cases d <;> kernel_rfl
/-- [.. for c in text] -/
theorem lc_str {x : Str} {g : TG} {tt : TT} {te : TE} {vs : List Nat} {σ : L2.St} {H1 : Hp} {D : Addr} {Qd : Hp → Prop} (Pv : Nat → Hp → Prop) (h0 : Pv 0 (upd H1 D (.lst [])))
    (hs : ∀ i c H, x.cps[i]? = some c → Pv i H → g (.str ⟨#[c]⟩) (wipe σ vs) H fun σ2 H2 => wipe σ2 vs = wipe σ vs ∧ tt σ2 H2 fun b H3 =>
      if b = true then te σ2 H3 fun y H4 => ∃ acc, H4 D = some (.lst acc) ∧ acc.length < sizeLine ∧ Pv (i + 1) (upd H4 D (.lst (acc ++ [y]))) else Pv (i + 1) H3) (hd : ∀ H, Pv x.cps.size H → Qd H) :
    ∃ W : Nat → Nat → Hp → Prop, (∃ m, W 0 m (upd H1 D (.lst []))) ∧ ∀ i m H, W i m H →
      ((Its x).stop i H ∧ Qd H) ∨ ((Its x).go i H ∧ ∃ Nx : Hp → Prop, (∀ H', Nx H' → ∃ m', m' < m ∧ W (i + 1) m' H') ∧ ∀ v H', (Its x).yld i H v H' → g v (wipe σ vs) H' fun σ2 H2 => wipe σ2 vs = wipe σ vs ∧ tt σ2 H2 fun b H3 =>
        if b = true then te σ2 H3 fun y H4 => ∃ acc, H4 D = some (.lst acc) ∧ acc.length < sizeLine ∧ Nx (upd H4 D (.lst (acc ++ [y]))) else Nx H3) := by
  refine ⟨fun i m H => m = x.cps.size - i ∧ i ≤ x.cps.size ∧ Pv i H, ⟨_, rfl, Nat.zero_le _, h0⟩, fun i m H hw => ?_⟩
  obtain ⟨e, le, p⟩ := hw
  by_cases lt : i < x.cps.size
  · refine .inr ⟨lt, Pv (i + 1), fun H' q => ⟨x.cps.size - (i + 1), by omega, rfl, lt, q⟩, fun v H' y => ?_⟩
    obtain ⟨rfl, c, hc, rfl⟩ := y
    exact hs i c _ hc p
  · have e2 : i = x.cps.size := by omega
    refine .inl ⟨Nat.le_of_not_lt lt, hd H ?_⟩
    rw [← e2]
    exact p
/-- data with a short text, not deep -/
structure Fine (d : PyData) : Prop where
  sh : d.showable = true
  ln : d.shown.length ≤ 1000
  dp : d.depth ≤ 6
  ok : PyData.strOk d.shown = true
/-- a class of the package: its name, and how it is made -/
structure Own (P : Program) (w : World) (K : PySem.W.Frag) (mg : Str → Option Value) (base : Heap) (x : Str) (C : Addr) (fn : List Str) : Prop where
  glob : mg x = some (.ref C)
  made : ∃ (fI : Addr) (fd : FuncData) (ps : List Str) (B newId initId : String) (bmB : List Value), Xk K C fI B newId initId bmB ∧ FnOk P w K mg base CX0 1 fI fd ps (spXI C fn) ∧ Binds K fd ps [] ∧ ps.length = fn.length + 1
section
variable {X : Cx} {x : Str} {C : Addr} {fn : List Str} {p pos : Pos} {e : Expr} {es : List Expr} {t : TA}
theorem pmk_own1 (T : Own X.prog X.w X.K X.mg X.base x C fn) (hr : Room 2 X.A) (hg : Gl X x) (ha : PA X (e :: es) t) (nd : (x == ("__debug__" : Str)) = false := by decide)
    (se : starEach (e :: es) X.env = (false, eval e X.env) :: starEach es X.env := by rfl) (sn : (backTo pos (starEach es X.env)).any (·.1) = false := by rfl) : PMk X (.Call (.Name x p) (e :: es) [] pos) (tPmk C fn t) := by
  obtain ⟨fI, fd, ps, B, n1, n2, bm, T1, F, b, l⟩ := T.made
  exact pmk_xk T1 F hr b l hg T.glob ha nd se sn
theorem pmk_own0 (T : Own X.prog X.w X.K X.mg X.base x C []) (hr : Room 2 X.A) (hg : Gl X x) (nd : (x == ("__debug__" : Str)) = false := by decide) : PMk X (.Call (.Name x p) [] [] pos) (tPmk C [] tNil) := by
  obtain ⟨fI, fd, ps, B, n1, n2, bm, T1, F, b, l⟩ := T.made
  exact pmk_xk0 T1 F hr b l hg T.glob nd
end
theorem rep_thing {H : Hp} {v : V} {d : PyData} {Q : VK} (hd : Dt true H v d) (n : Fine d) (q : Q (.str d.shown) H) : rRep [v] H Q := by
  have h1 := n.ln
  have h2 := n.dp
  exact ⟨v, d, true, rfl, hd, fun _ => .inl rfl, n.sh, by rw [sizeLine_eq]; omega, by omega, q⟩
theorem ofString_ok (s : String) : PyData.strOk (Str.ofString s) = true := by
  unfold PyData.strOk
  rw [Str.ofString_eq_toList, Array.all_eq_true_iff_forall_mem]
  intro c hc
  simp only [List.mem_toArray, List.mem_map] at hc
  obtain ⟨ch, _, rfl⟩ := hc
  have v : ch.val.toNat < 0xd800 ∨ (0xdfff < ch.val.toNat ∧ ch.val.toNat < 0x110000) := ch.valid
  have e : ch.toNat = ch.val.toNat := rfl
  refine decide_eq_true ?_
  omega
theorem nice_small {i : Int} (h : i.natAbs ≤ 10 ^ 31) : Fine (.int i) := by
  refine ⟨?_, ?_, by simp [PyData.depth], ofString_ok _⟩
  · have lg : i.natAbs.log2 < 1920 := PySem.Flt.log2_lt_of (by decide) (Nat.lt_of_le_of_lt h (by decide +kernel))
    exact decide_eq_true lg
  · have e := PySem.int_text_length_le10 (k := 32) (a := i) (by decide) (Nat.lt_of_le_of_lt h (by decide +kernel))
    show (Str.ofString (toString i)).length ≤ 1000
    rw [PySem.ofString_length]
    omega
theorem okG {P : Program} {w : World} {K : PySem.W.Frag} {mg : Str → Option Value} {base : Heap} {x ql : Str} {st : Stmt} {f : Addr} {fd : FuncData} {N ps : List Str} {n : Nat} {sp : Sp} (F : Fun K x ql st f fd) (S : FnScope N ps (defScope st))
    (many : ∀ vs H Q E, sp vs H Q E → vs.length = ps.length)
    (main : ∀ (cdv : Value) (B : Around) (up : List Env) (s : Shared) (H : Hp) (vs : List V) (Q : VK) (E : XK), Room n (B.deeper (PyProof.Rows.envOfC ql (defScope st) s.heap.objs.size f cdv)) → B.guards = some [] → sp vs H Q E →
      ∃ t, PSs (cxOf CX0 P w K mg base N ql (defScope st) f cdv B up s H E).nox (defBody st) t ∧ t { nx := fun _ G => Q .non G, rt := Q } (start N vs) H) : FnG P w K mg base CX0 (n + 1) f fd ps sp := by
  obtain ⟨oc, od, kV, doc, pm, an, cdv, ct, osl, rfl, lk, hcd⟩ := F.ex
  refine fnG lk hcd S many fun B up s H vs Q E room gd ho => ?_
  obtain ⟨t, der, rd⟩ := main cdv B up s H vs Q E room gd ho
  exact ⟨t, der.nox, rd⟩
theorem fine_dec {d : PyData} (h : (d.showable && decide (d.shown.length ≤ 1000) && decide (d.depth ≤ 6) && PyData.strOk d.shown) = true) : Fine d := by
  simp only [Bool.and_eq_true, decide_eq_true_eq] at h
  exact ⟨h.1.1.1, h.1.1.2, h.1.2, h.2⟩
theorem dt_to {B H H' : Hp} {r : Addr} {v : V} {d : PyData} (h : Dt true (news B H) v d) (b : But r H H') (there : ∃ o, B r = some o) : Dt true H' v d := (h.same (news_but b there)).same news_sub
theorem strs_dp {K : PySem.W.Frag} {H : Hp} : ∀ l : List Str, DpAll K H (l.map V.str) (l.map PyData.str)
  | [] => .nil
  | x :: l => .cons (.str x) (strs_dp l)
theorem strs_lay : ∀ l : List Str, (∀ x ∈ l, PyData.strOk x = true) → PyData.canLayAll0 (l.map PyData.str) = true
  | [], _ => by simp [PyData.canLayAll0]
  | x :: l, h => by simp [PyData.canLayAll0, PyData.canLay0, h x List.mem_cons_self, strs_lay l fun y hy => h y (List.mem_cons_of_mem _ hy)]
theorem strs_depth : ∀ l : List Str, PyData.depthAll (l.map PyData.str) ≤ 1
  | [] => by simp [PyData.depthAll]
  | x :: l => by
    have ih := strs_depth l
    simp only [List.map_cons, PyData.depthAll, PyData.depth]
    omega
theorem strs_shaped {l : List Str} (h : ∀ x ∈ l, PyData.strOk x = true) : SeqAt.shaped (.list (l.map PyData.str)) = true := by
  have d := strs_depth l
  unfold SeqAt.shaped
  have e : (PyData.list (l.map PyData.str)).canLay0 = true := by simp only [PyData.canLay0, strs_lay l h]
  have e2 : (PyData.list (l.map PyData.str)).depth ≤ 64 := by simp only [PyData.depth]; omega
  rw [e, decide_eq_true e2]
  rfl
/-- two lists of the same texts are not unlike -/
theorem ne_strs {K : PySem.W.Frag} {H : Hp} {a p : Addr} {l : List Str} {Q : VK} (ok : ∀ x ∈ l, PyData.strOk x = true) (h1 : H a = some (.lst (l.map V.str))) (h2 : H p = some (.lst (l.map V.str))) (q : Q (.bl false) H) : rNeD K (.ref a) (.ref p) H Q := by
  refine ⟨_, _, .lst (SqL.of h1) (strs_dp l), .lst (SqL.of h2) (strs_dp l), strs_shaped ok, strs_shaped ok, ?_⟩
  rw [PySem.SeqAt.eqv_refl _ (by simp only [PyData.canLay0, strs_lay l ok])]
  exact q
/-- what the end asks of a class, in one look -/
def look (K : PySem.W.Frag) (C f : Addr) (bmB : List Value) (newId : String) (fs : List Str) : Bool :=
  PySem.W.excInitIn K C bmB newId && (PySem.W.excOver K C bmB && (PySem.W.hasDictIn K C && (decide (PySem.W.findIn K (.ref C) "__setattr__" = some (some (.builtin "object.__setattr__"))) &&
  (decide (PySem.W.typeIn K (.ref f) = some (.type "function")) && (PySem.W.keepIn K (.ref C) && (decide (PySem.W.subIn K (.ref C) (.type "BaseException") = some true) && (decide (PySem.W.typeIn K (.ref C) = some (.type "type")) &&
  (decide (PySem.W.findIn K (.ref C) "__getattribute__" = some (some (.builtin "BaseException.__getattribute__"))) && (decide (PySem.W.findIn K (.ref C) "__getattr__" = some none) && (decide (PySem.W.findIn K (.ref C) "__class__" = some (some (.builtin "object.__class__"))) &&
  (decide (PySem.W.mroIn K C (.type "object") = some true) && fs.all fun f => decide (PySem.W.findIn K (.ref C) f = some none))))))))))))
structure Look (K : PySem.W.Frag) (C f : Addr) (bmB : List Value) (newId : String) (fs : List Str) : Prop where
  made : PySem.W.excInitIn K C bmB newId = true
  over : PySem.W.excOver K C bmB = true
  dict : PySem.W.hasDictIn K C = true
  set : PySem.W.findIn K (.ref C) "__setattr__" = some (some (.builtin "object.__setattr__"))
  fn : PySem.W.typeIn K (.ref f) = some (.type "function")
  keep : PySem.W.keepIn K (.ref C) = true
  exc : PySem.W.subIn K (.ref C) (.type "BaseException") = some true
  ty : PySem.W.typeIn K (.ref C) = some (.type "type")
  get : PySem.W.findIn K (.ref C) "__getattribute__" = some (some (.builtin "BaseException.__getattribute__"))
  get2 : PySem.W.findIn K (.ref C) "__getattr__" = some none
  cls : PySem.W.findIn K (.ref C) "__class__" = some (some (.builtin "object.__class__"))
  obj : PySem.W.mroIn K C (.type "object") = some true
  no : ∀ f ∈ fs, PySem.W.findIn K (.ref C) f = some none
theorem look_ok {K : PySem.W.Frag} {C f : Addr} {bmB : List Value} {newId : String} {fs : List Str} (h : look K C f bmB newId fs = true) : Look K C f bmB newId fs := by
  unfold look at h
  simp only [Bool.and_eq_true, decide_eq_true_eq, List.all_eq_true] at h
  obtain ⟨h1, h2, h3, h4, h5, h6, h7, h8, h9, h10, h11, h12, h13⟩ := h
  exact ⟨h1, h2, h3, h4, h5, h6, h7, h8, h9, h10, h11, h12, h13⟩
theorem Look.xk {K : PySem.W.Frag} {C f : Addr} {B newId initId : String} {bmB : List Value} {fs : List Str} (L : Look K C f bmB newId fs) (i : PySem.W.findIn K (.ref C) "__init__" = some (some (.ref f))) (fb : ExcBaseFacts B newId initId bmB)
    (sf : StoreFacts B bmB "object.__setattr__" "object") : Xk K C f B newId initId bmB := ⟨fb, sf, L.made, L.over, L.dict, L.set, i, L.fn, L.keep, L.exc, L.ty⟩
theorem Look.xc {K : PySem.W.Frag} {C f : Addr} {newId : String} {bmB : List Value} {fs : List Str} (L : Look K C f bmB newId fs) (d1 : PySem.W.specialIn K (.builtin "object.__class__") "__get__" = some (some (.builtin "getset_descriptor.__get__")))
    (d2 : PySem.W.takesIn K (.builtin "object.__class__") = some true) : PySem.W.XcC K C := ⟨L.get, L.get2, L.exc, L.dict, L.cls, d1, d2, L.obj⟩
theorem ws_0 {ws : List V} (h : ws.length = ([] : List Str).length) : ws = [] := List.eq_nil_of_length_eq_zero h
theorem ws_1 {x : Str} {ws : List V} (h : ws.length = [x].length) : ∃ v, ws = [v] := match ws, h with | [v], _ => ⟨v, rfl⟩
end PSG

set_option Elab.async false
set_option linter.all false
set_option maxRecDepth 100000
set_option maxHeartbeats 8000000
namespace PSG
open PySem PySem.Spec L2
open PyProof.Rows (IntsAre AllBare)
/-- list(sequence): new, and not sys.modules -/
def rListF (K : PySem.W.Frag) : List V → Hp → VK → Prop := fun xs H Q => ∃ p ys, xs = [.ref p] ∧ (SqL K H p ys ∨ SqT K H p ys) ∧ ∀ l, H l = none → l ≠ sysModules → Q (.ref l) (upd H l (.lst ys))
theorem call_list_ofF {X : Cx} : CallR X (.type "list") (rListF X.K) := by
  intro pins s σ H xs us Q I r ho
  obtain ⟨p, ys, rfl, where_, q⟩ := ho
  obtain ⟨u, rfl, rx⟩ := vals1 r
  cases rx
  have far : s.heap.objs.size ≠ sysModules := Nat.ne_of_gt I.big
  have done : ∀ (its : List Value) (g : Heap) (n : Nat), Vals ys its → ys.length ≤ sizeLine → (∀ b o, s.heap.get? b = some o → g.get? b = some o) → g.get? s.heap.objs.size = some { cls := .type "list", dict := none, data := .seq its.toArray n, slots := #[] } →
      EP X pins σ Q (.ref s.heap.objs.size) { s with heap := g } := fun its g n rv sz k e =>
    ⟨.ref s.heap.objs.size, _, I.laid (t' := s.toks) k (Nat.le_refl _) (show ObjOk X.prog X.w _ g _ (.lst ys) from ⟨sz, its, n, rv, e⟩), rfl, q _ (I.hok.fresh (Nat.le_refl _)) far⟩
  rcases where_ with w | w
  · obtain ⟨its, rv, pl, sz⟩ := I.list w
    have len := rv.length
    obtain ⟨o, ho, hc, n, hd⟩ := pl.isList
    refine call_list_seq p (.inl rfl) ho hc hd (fun g n k e => done its g n rv sz k e) ?_
    simp only [List.size_toArray] <;> omega
  · obtain ⟨its, rv, pl, sz⟩ := I.tuple w
    have len := rv.length
    obtain ⟨o, ho, hc, n, hd⟩ := pl
    refine call_list_seq p (.inr rfl) ho hc hd (fun g n k e => done its g n rv sz k e) ?_
    simp only [List.size_toArray] <;> omega
/-! ### texts of tuples of small things -/
theorem ok_app {x y : Str} (h1 : PyData.strOk x = true) (h2 : PyData.strOk y = true) : PyData.strOk (x ++ y) = true := by
  unfold PyData.strOk at *
  show (x.cps ++ y.cps).all _ = true
  rw [Array.all_append, h1, h2]
  rfl
theorem ok_join {sep : Str} (hs : PyData.strOk sep = true) : ∀ ts : List Str, (∀ t ∈ ts, PyData.strOk t = true) → PyData.strOk (Str.join sep ts) = true
  | [], _ => by
    show PyData.strOk (⟨#[]⟩ : Str) = true
    decide +kernel
  | [x], h => h x List.mem_cons_self
  | x :: y :: r, h => ok_app (ok_app (h x List.mem_cons_self) hs) (ok_join hs (y :: r) fun t ht => h t (List.mem_cons_of_mem _ ht))
theorem ok_tuple {ts : List Str} (h : ∀ t ∈ ts, PyData.strOk t = true) : PyData.strOk (tupleText ts) = true := by
  unfold tupleText
  refine ok_app (ok_app (by decide +kernel) (ok_join (by decide +kernel) ts h)) ?_
  split <;> decide +kernel
/-- a thing that may stand within a tuple -/
structure El (d : PyData) : Prop where
  sh : d.showable = true
  ln : d.shown.length ≤ 40
  dp : d.depth ≤ 4
  ok : PyData.strOk d.shown = true
theorem el_dec {d : PyData} (h : (d.showable && decide (d.shown.length ≤ 40) && decide (d.depth ≤ 4) && PyData.strOk d.shown) = true) : El d := by
  simp only [Bool.and_eq_true, decide_eq_true_eq] at h
  exact ⟨h.1.1.1, h.1.1.2, h.1.2, h.2⟩
theorem els_all : ∀ {ds : List PyData}, (∀ d ∈ ds, El d) → PyData.showableAll ds = true ∧ ((PyData.shownAll ds).map (·.length)).sum ≤ 40 * ds.length ∧ PyData.depthAll ds ≤ 4 ∧ (PyData.shownAll ds).length = ds.length ∧ ∀ t ∈ PyData.shownAll ds, PyData.strOk t = true
  | [], _ => by simp [PyData.showableAll, PyData.shownAll, PyData.depthAll]
  | d :: ds, h => by
    obtain ⟨h1, h2, h3, h4, h5⟩ := els_all (ds := ds) fun x hx => h x (List.mem_cons_of_mem _ hx)
    have n := h d List.mem_cons_self
    have n2 := n.ln
    have n3 := n.dp
    refine ⟨by simp only [PyData.showableAll, n.sh, h1, Bool.and_self], ?_, ?_, ?_, ?_⟩
    · simp only [PyData.shownAll, List.map_cons, List.sum_cons, List.length_cons]
      omega
    · simp only [PyData.depthAll]
      omega
    · simp only [PyData.shownAll, List.length_cons, h4]
    · intro t ht
      simp only [PyData.shownAll, List.mem_cons] at ht
      rcases ht with rfl | ht
      · exact n.ok
      · exact h5 t ht
theorem fine_tuple {ds : List PyData} (few : ds.length ≤ 21) (h : ∀ d ∈ ds, El d) : Fine (.tuple ds) := by
  obtain ⟨h1, h2, h3, h4, h5⟩ := els_all h
  refine ⟨by simpa only [PyData.showable] using h1, ?_, ?_, ok_tuple h5⟩
  · have l := tupleText_len_le (PyData.shownAll ds)
    show (tupleText (PyData.shownAll ds)).length ≤ 1000
    omega
  · simp only [PyData.depth]
    omega
end PSG

set_option Elab.async false
set_option linter.all false
set_option maxRecDepth 100000
set_option maxHeartbeats 4000000
/-! tuple(text) -/
namespace PSZ
open PySem PySem.Spec
section
variable {prog : Program} {w : World} {A : Around} {E : Value → Shared → Prop} {s : Shared} {x : Str} {t : Tok}
/-- what is laid: the signs of the text, one by one -/
def Laid (s : Shared) (x : Str) (q : Value → Shared → Prop) : Prop :=
  ∀ (s' : Shared) (acc : Array Value), (∀ b o, s.heap.get? b = some o → s'.heap.get? b = some o) → s'.gens = s.gens → s'.drawn = s.drawn → s'.os = s.os → ItemsOf (SignAt x) acc x.cps.size →
    q (.ref s'.heap.objs.size) { s' with heap := s'.heap.push { cls := .type "tuple", data := .seq acc } }
theorem text_new {q : Value → Shared → Prop} (hd : A.handled = none) (few : x.cps.size ≤ sizeLine) (h : Laid s x q) : codeAny (model prog w) A (.call (.builtin "tuple.__new__") ⟨[.type "tuple", .str x t], []⟩) (wants q E) s := by
  refine codeAny_of_tree ?_
  show wpAny _ A.in1 (do checkBuiltinCall "tuple.__new__" ⟨[.type "tuple", .str x t], []⟩; again (.builtin "tuple.__new__" ⟨[.type "tuple", .str x t], []⟩)) _ _ s
  refine wpAny_bind (wpAny_of_eq (F.newCall_tuple_1 _) (wpAny_pure ⟨plainId_quiet F.plain_tuple_new _, codeAny_builtin F.entry_tuple_new ?_⟩))
  rw [Around.under_plainId F.plain_tuple_new _]
  have k1 := sub_tuple_self
  have k2 := init_tuple_lookup
  have k3 := madeHere_tuple
  have ty : s.TypeIs (.str x t) "str" := typeIs_str _ _ _
  have hd1 : A.in1.handled = none := hd
  wp_walk using wpAny_typeOf ty, wpAny_collect_str (A := A.in1) hd1 x t
  first
    | (intro s' acc k e1 e2 e3 its
       show wpAny _ _ (Builtin.Tuple.tupleExact acc.toList.toArray >>= fun v => ret v) _ _ _
       unfold Builtin.Tuple.tupleExact
       refine wpAny_bind (wpAny_newObj_type ?_ (by show acc.toList.toArray.size ≤ sizeLine; simp only [Array.toArray_toList]; rw [its.1]; exact few))
       refine wpAny_pure ?_
       have e : acc.toList.toArray = acc := by simp
       rw [e]
       exact h s' acc k e1 e2 e3 its)
    | skip
theorem call_text {Q : Value → Shared → Prop} (hd : A.handled = none) (few : x.cps.size ≤ sizeLine) (h : Laid s x Q) : wpAny (model prog w) A (call (.type "tuple") [.str x t]) Q E s := by
  refine callType_codes (Q₁ := fun obj s₁ => s₁.TypeIs obj "tuple" ∧ Q obj s₁) F.called_tuple (F.typeCall_tuple_1 _) F.entry_object_init
    (text_new (A := A.in1) hd few fun s' acc k e1 e2 e3 its => ⟨⟨_, Heap.get?_push_size _ rfl, rfl⟩, h s' acc k e1 e2 e3 its⟩) fun obj s₁ h₁ => ?_
  exact ⟨h₁.1, F.args_object_init_2 obj _, object_init_meets F.called_tuple.init.lookup F.called_tuple.made (by decide) prog w A.in1 _ s₁ ⟨h₁.1, rfl, h₁.2⟩⟩
end
end PSZ
namespace PSG
open PySem PySem.Spec L2
open PyProof.Rows (IntsAre AllBare)
theorem signs_vals : ∀ (cs : List Nat) (us : List Value), us.length = cs.length → (∀ (j : Nat) (v : Value), us[j]? = some v → ∃ (c : Nat) (u : Tok), cs[j]? = some c ∧ v = Value.str ⟨#[c]⟩ u) → Vals (cs.map fun c => V.str ⟨#[c]⟩) us
  | [], [], _, _ => .nil
  | [], _ :: _, h, _ => by cases h
  | _ :: _, [], h, _ => by cases h
  | c :: cs, u :: us, h, k => by
    obtain ⟨d, t, e1, e2⟩ := k 0 u rfl
    have e3 : c = d := by simpa using e1
    subst e3 e2
    exact .cons ⟨t, rfl⟩ (signs_vals cs us (by simpa using h) fun j v e => k (j + 1) v (by simpa using e))
def rTupS : List V → Hp → VK → Prop := fun xs H Q => ∃ x : Str, xs = [.str x] ∧ x.length ≤ 1000 ∧ ∀ l, H l = none → Q (.ref l) (upd H l (.tup (x.cps.toList.map fun c => V.str ⟨#[c]⟩)))
theorem call_tupleS {X : Cx} (calm : X.calm = true) : CallR X (.type "tuple") rTupS := by
  intro pins s σ H xs us Q I r h
  obtain ⟨x, rfl, few, q⟩ := h
  obtain ⟨u, rfl, t, rfl⟩ := vals1 r
  have few2 : x.cps.size ≤ sizeLine := by
    have e : x.cps.size = x.length := rfl
    rw [sizeLine_eq]
    omega
  refine PSZ.call_text (I.ok.hd calm) few2 fun s' acc k e1 e2 e3 its => ?_
  obtain ⟨h', g', d', t', o'⟩ := s'
  dsimp only at e1 e2 e3 k
  subst e1 e2 e3
  have I1 : Inv X pins σ H { s with heap := h', toks := t' } := I.kept (t' := t') k
  have va : Vals (x.cps.toList.map fun c => V.str ⟨#[c]⟩) acc.toList := signs_vals _ _ (by rw [Array.length_toList, Array.length_toList]; exact its.1) fun j v e => by
    obtain ⟨c, u, e4, e5⟩ := its.2 j v (by rw [← Array.getElem?_toList]; exact e)
    exact ⟨c, u, by rw [Array.getElem?_toList]; exact e4, e5⟩
  have I2 := I1.laid (t' := t') (a := h'.objs.size) (h' := h'.push { cls := .type "tuple", data := .seq acc }) (o := .tup (x.cps.toList.map fun c => V.str ⟨#[c]⟩)) (fun b o e => Heap.get?_push_of_some _ e) (Nat.le_refl _)
    ⟨by rw [List.length_map, Array.length_toList]; exact few2, acc.toList, va, ⟨_, Heap.get?_push_size _ rfl, rfl, 0, by simp⟩⟩
  exact ⟨.ref h'.objs.size, _, I2, rfl, q _ (I1.hok.fresh (Nat.le_refl _))⟩
end PSG

set_option Elab.async false
set_option linter.all false
set_option maxRecDepth 100000
set_option maxHeartbeats 8000000
/-! sets of numbers and texts, with what a walk over them wants: add, set(xs), len, sorted -/
namespace PSS
open PySem PySem.Spec PyProof.Rows L2
instance memK (k : Key) (L : List Key) : Decidable (k ∈ L) := @List.instDecidableMemOfLawfulBEq Key instBEqOfDecidableEq inferInstance k L
def kOf : Value → Key
  | .int i _ => .inl i
  | .str x _ => .inr x
  | _ => .inl 0
theorem kOf_rel {k : Key} {u : Value} (r : RelV (kV k) u) : kOf u = k := by
  cases k with
  | inl i => obtain ⟨t, rfl⟩ := r; rfl
  | inr x => obtain ⟨t, rfl⟩ := r; rfl
abbrev eK (e : Int × Value) : Key := kOf e.2
def Ent (P : Program) (w : World) (e : Int × Value) : Prop := ∃ k : Key, RelV (kV k) e.2 ∧ e.1 = (mixKind P w).hash k
theorem ent_is {P : Program} {w : World} {e : Int × Value} (n : Ent P w e) (k : Key) : (mixKind P w).is k e.2 = true ↔ eK e = k := by
  obtain ⟨j, r, _⟩ := n
  have i1 : (mixKind P w).is j e.2 = true := kV_is r
  rw [show eK e = j from kOf_rel r]
  exact ⟨fun z => (mixKind P w).inj _ _ _ i1 z, fun z => z ▸ i1⟩
theorem ents_el {P : Program} {w : World} {es : List (Int × Value)} (n : ∀ e ∈ es, Ent P w e) : ElemsOf (mixKind P w) es := by
  intro e he
  obtain ⟨j, r, h⟩ := n e he
  exact ⟨⟨j, kV_is r, h⟩, key_scan r⟩
theorem ents_mem {P : Program} {w : World} {es : List (Int × Value)} (n : ∀ e ∈ es, Ent P w e) (k : Key) : k ∈ es.map eK ↔ ∃ e ∈ es, (mixKind P w).is k e.2 = true := by
  rw [List.mem_map]
  exact ⟨fun ⟨e, he, z⟩ => ⟨e, he, (ent_is (n e he) k).2 z⟩, fun ⟨e, he, z⟩ => ⟨e, he, (ent_is (n e he) k).1 z⟩⟩
/-- the set at a has just the keys L -/
structure Is (P : Program) (w : World) (h : Heap) (a : Addr) (L : List Key) (o : Obj) (es : Array (Int × Value)) (ep : Nat) (t : SetTable) : Prop where
  at_ : h.get? a = some o
  ex : o.ExactSet
  da : o.data = .set es ep t
  en : ∀ e ∈ es.toList, Ent P w e
  pm : (es.toList.map eK).Perm L
  nd : L.Nodup
  sz : L.length < scanBound
  ft : t.fits es.size = true
  ri : Ris t.place.toList
  le : w.params.followText "set-order" = true ∨ t.led = true
def SetM (P : Program) (w : World) (h : Heap) (a : Addr) (L : List Key) : Prop := ∃ o es ep t, Is P w h a L o es ep t
section
variable {P : Program} {w : World} {h h' : Heap} {a : Addr} {L : List Key} {o : Obj} {es : Array (Int × Value)} {ep : Nat} {t : SetTable}
theorem Is.len (I : Is P w h a L o es ep t) : es.size = L.length := by
  have e := I.pm.length_eq
  rw [List.length_map, Array.length_toList] at e
  exact e
theorem SetM.to (M : SetM P w h a L) (k : ∀ o, h.get? a = some o → h'.get? a = some o) : SetM P w h' a L := by
  obtain ⟨o, es, ep, t, I⟩ := M
  exact ⟨o, es, ep, t, { I with at_ := k o I.at_ }⟩
theorem SetM.setOf (M : SetM P w h a L) : h.SetOf (mixKind P w) a (fun k => decide (k ∈ L)) L.length := by
  obtain ⟨o, es, ep, t, I⟩ := M
  refine ⟨o, es, ep, t, I.at_, I.ex, I.da, ents_el I.en, fun k => ?_, by rw [I.len]; exact I.sz, I.ft, I.len⟩
  rw [decide_eq_true_eq, ← I.pm.mem_iff]
  exact ents_mem I.en k
theorem SetM.perm {L' : List Key} (M : SetM P w h a L) (p : L.Perm L') : SetM P w h a L' := by
  obtain ⟨o, es, ep, t, I⟩ := M
  exact ⟨o, es, ep, t, { I with pm := I.pm.trans p, nd := p.nodup_iff.mp I.nd, sz := by rw [← p.length_eq]; exact I.sz }⟩
end
/-- k put in -/
def ins (L : List Key) (k : Key) : List Key := if k ∈ L then L else L ++ [k]
theorem ins_old {L : List Key} {k : Key} (m : k ∈ L) : ins L k = L := if_pos m
theorem ins_new {L : List Key} {k : Key} (m : k ∉ L) : ins L k = L ++ [k] := if_neg m
theorem mem_ins {L : List Key} {k j : Key} : j ∈ ins L k ↔ j ∈ L ∨ j = k := by
  unfold ins
  split
  · next m => exact ⟨.inl, fun z => z.elim id fun e => e ▸ m⟩
  · simp
theorem nd_ins {L : List Key} (n : L.Nodup) (k : Key) : (ins L k).Nodup := by
  unfold ins
  split
  · exact n
  · next m =>
    refine List.nodup_append.mpr ⟨n, by simp, fun x hx y hy e => m ?_⟩
    have e2 : y = k := by simpa using hy
    rw [← e2, ← e]
    exact hx
theorem len_ins (L : List Key) (k : Key) : (ins L k).length ≤ L.length + 1 := by
  unfold ins
  split
  · omega
  · simp
section
variable {P : Program} {w : World} {A : Around} {E : Value → Shared → Prop} {s : Shared} {a : Addr} {L : List Key}
/-- the end of an add: what was laid is stored, and laid anew where it is too full -/
theorem add_end {note : Bool → Sem Unit} (hg : ∀ (b : Bool) (s₁ : Shared) (Q' : Unit → Shared → Prop), Q' () s₁ → wpAny (model P w) A (note b) Q' E s₁)
    {o : Obj} {es fs : Array (Int × Value)} {ep : Nat} {t u : SetTable} (ho : s.heap.get? a = some o) (hex : o.ExactSet) (hd : o.data = .set es ep t)
    (en : ∀ e ∈ fs.toList, Ent P w e) (pm : (fs.toList.map eK).Perm L) (nd : L.Nodup) (sz : L.length < scanBound) (ft : u.fits fs.size = true) (ri : Ris u.place.toList) (le : w.params.followText "set-order" = true ∨ u.led = true)
    {dummy : Bool} {R : Option Bool → Shared → Prop} (hR : ∀ g, Heap.SameBut a s.heap g → SetM P w g a L → R (some true) { s with heap := g }) :
    wpAny (model P w) A (do
        storeSet a fs u
        if (!dummy && u.tooFull) = true then do
            note (relayAll u fs (SetTable.grown fs.size)).2.2
            storeSet a (relayAll u fs (SetTable.grown fs.size)).1 (relayAll u fs (SetTable.grown fs.size)).2.1
            pure (some true)
          else pure (some true)) R E s := by
  have fsz : fs.size = L.length := by
    have e := pm.length_eq
    rw [List.length_map, Array.length_toList] at e
    exact e
  have fb : fs.size < scanBound := by rw [fsz]; exact sz
  have o1 := store_at (es' := fs) (t' := u) ho hd
  have b1 := Heap.SameBut.update s.heap a (Obj.putSet fs u)
  refine wpAny_bind (wpAny_storeSet_of ho hd ?_ (fits_of_scanBound fb))
  by_cases full : (!dummy && u.tooFull) = true
  · rw [if_pos full]
    have p2 := relayAll_perm u fs (SetTable.grown fs.size)
    have f2 := relayAll_fits u fs (SetTable.grown fs.size)
    have r2 := relayAll_ris u fs (SetTable.grown fs.size)
    have l2 := relayAll_led u fs (SetTable.grown fs.size)
    generalize relayAll u fs (SetTable.grown fs.size) = Z at p2 f2 r2 l2 ⊢
    obtain ⟨gs, v, gave⟩ := Z
    dsimp only at p2 f2 r2 l2 ⊢
    have gsz : gs.size = fs.size := by
      have e := p2.length_eq
      rw [Array.length_toList, Array.length_toList] at e
      exact e
    have gb : gs.size < scanBound := by omega
    refine wpAny_bind (hg _ _ _ (wpAny_bind (wpAny_storeSet_of o1 rfl ?_ (fits_of_scanBound gb))))
    have o2 := store_at (es' := gs) (t' := v) o1 rfl
    exact wpAny_pure (hR _ (b1.trans (Heap.SameBut.update _ a _)) ⟨_, gs, _, v,
      { at_ := o2, ex := hex, da := rfl, en := fun e he => en e (p2.mem_iff.mp he), pm := (p2.map eK).trans pm, nd := nd, sz := sz, ft := f2, ri := r2, le := le.imp id fun z => by rw [l2]; exact z }⟩)
  · rw [if_neg full]
    exact wpAny_pure (hR _ b1 ⟨_, fs, _, u, { at_ := o1, ex := hex, da := rfl, en := en, pm := pm, nd := nd, sz := sz, ft := ft, ri := ri, le := le }⟩)
theorem add_hashed {k : Key} {x : Value} (rx : RelV (kV k) x) {Q : Bool → Shared → Prop} (M : SetM P w s.heap a L) (room : L.length + 1 < scanBound)
    (hQ : ∀ g b, Heap.SameBut a s.heap g → SetM P w g a (ins L k) → Q b { s with heap := g }) :
    wpAny (model P w) A (setAddHashed a x ((mixKind P w).hash k)) Q E s := by
  obtain ⟨o, es, ep, t, I⟩ := M
  have ik : (mixKind P w).is k x = true := kV_is rx
  have sc : x.scannable = true := key_scan rx
  have el : ElemsOf (mixKind P w) es.toList := ents_el I.en
  have eb : es.size < scanBound := by rw [I.len]; exact I.sz
  unfold setAddHashed setAddHashedIn
  refine wpAny_holding (wpAny_bind (wpAny_setState_of I.at_ I.da I.ft ?_))
  dsimp only
  rw [byScan_of sc eb el]
  simp only [↓reduceIte]
  unfold setAddByScan
  refine wpAny_bind (wpAny_bind (wpAny_rule (wpAny_bind (wpAny_setScan_of ik I.at_ I.da I.ft el ?_))))
  cases found : List.findIdx? (fun e => (mixKind P w).is k e.2) es.toList with
  | some j =>
    obtain ⟨hj, pj, _⟩ := List.findIdx?_eq_some_iff_getElem.mp found
    have old : k ∈ L := I.pm.mem_iff.mp ((ents_mem I.en k).2 ⟨_, List.getElem_mem hj, pj⟩)
    dsimp only
    refine wpAny_pure (wpAny_pure (hQ s.heap _ (Heap.SameBut.refl a s.heap) ?_))
    rw [ins_old old]
    exact ⟨o, es, ep, t, I⟩
  | none =>
    dsimp only
    have new : k ∉ L := fun z => by
      obtain ⟨e, he, q⟩ := (ents_mem I.en k).1 (I.pm.mem_iff.mpr z)
      have c := List.findIdx?_eq_none_iff.mp found e he
      rw [q] at c
      cases c
    have note : ∀ (b : Bool) (s₁ : Shared) (Q' : Unit → Shared → Prop), Q' () s₁ → wpAny (model P w) A (match b with | true => rule "set.scan.the-table-gave-way" | false => pure ()) Q' E s₁ := by
      intro b s₁ Q' q
      cases b
      · exact wpAny_pure q
      · exact wpAny_rule q
    have p1 := layNew_perm t es ((mixKind P w).hash k) x
    have f1 := layNew_fits t es ((mixKind P w).hash k) x
    have r1 := layNew_ris t es ((mixKind P w).hash k) x I.ri
    have l1 := layNew_led t es ((mixKind P w).hash k) x
    generalize layNew t es ((mixKind P w).hash k) x = Z at p1 f1 r1 l1 ⊢
    obtain ⟨fs, u, dummy, gave⟩ := Z
    dsimp only at p1 f1 r1 l1 ⊢
    rw [Array.toList_push] at p1
    have p2 : fs.toList.Perm (es.toList ++ [((mixKind P w).hash k, x)]) := p1
    have p3 : (fs.toList.map eK).Perm (L ++ [k]) := by
      have z := p2.map eK
      rw [List.map_append] at z
      have ek : eK ((mixKind P w).hash k, x) = k := kOf_rel rx
      rw [show List.map eK [((mixKind P w).hash k, x)] = [k] from by rw [List.map_cons, ek] <;> rfl] at z
      exact z.trans (I.pm.append_right _)
    have e1 : ∀ e ∈ fs.toList, Ent P w e := fun e he => by
      rcases List.mem_append.mp (p2.mem_iff.mp he) with z | z
      · exact I.en e z
      · rw [List.mem_singleton.mp z]
        exact ⟨k, rx, rfl⟩
    have n1 : (L ++ [k]).Nodup := by
      rw [← ins_new new]
      exact nd_ins I.nd k
    have z1 : (L ++ [k]).length < scanBound := by
      rw [List.length_append]
      exact room
    have led1 : w.params.followText "set-order" = true ∨ u.led = true := I.le.imp id fun z => by rw [l1]; exact z
    have fin : ∀ g, Heap.SameBut a s.heap g → SetM P w g a (L ++ [k]) → Q true { s with heap := g } := fun g sb m => hQ g true sb (by rw [ins_new new]; exact m)
    refine wpAny_bind (note _ _ _ ?_)
    split
    · refine wpAny_bind ?_
      rw [hashByValue_scannable 8 sc]
      refine wpAny_pure (add_end note I.at_ I.ex I.da e1 p3 n1 z1 ?_ ?_ ?_ fun g sb m => wpAny_pure (fin g sb m))
      · first | exact f1 | (split <;> first | exact f1 | exact SetTable.fits_plain_off f1)
      · first | exact r1 | (split <;> exact r1)
      · first | exact led1 | (split <;> exact led1)
    · refine wpAny_bind (wpAny_pure ?_)
      simp only [↓reduceIte]
      exact add_end note I.at_ I.ex I.da e1 p3 n1 z1 f1 r1 led1 fun g sb m => wpAny_pure (fin g sb m)
end
end PSS

set_option Elab.async false
set_option linter.all false
set_option maxRecDepth 100000
set_option maxHeartbeats 8000000
/-! set(xs) of a list or a tuple of keys -/
namespace PSS
open PySem PySem.Spec PyProof.Rows L2
/-- the different keys of a list, in sequence -/
def sof (ks : List Key) : List Key := ks.foldl ins []
theorem sof_app (ks : List Key) (k : Key) : sof (ks ++ [k]) = ins (sof ks) k := by
  unfold sof
  rw [List.foldl_append]
  rfl
theorem sof_take {ks : List Key} {i : Nat} {k : Key} (h : ks[i]? = some k) : sof (ks.take (i + 1)) = ins (sof (ks.take i)) k := by
  rw [List.take_add_one, h]
  exact sof_app _ _
theorem foldl_nd : ∀ (ks L : List Key), L.Nodup → (ks.foldl ins L).Nodup
  | [], _, h => h
  | k :: ks, _, h => foldl_nd ks _ (nd_ins h k)
theorem foldl_mem : ∀ (ks L : List Key) (j : Key), j ∈ ks.foldl ins L ↔ j ∈ L ∨ j ∈ ks
  | [], L, j => by simp
  | k :: ks, L, j => by
    rw [List.foldl_cons, foldl_mem ks (ins L k) j, mem_ins, List.mem_cons]
    exact or_assoc
theorem foldl_len : ∀ (ks L : List Key), (ks.foldl ins L).length ≤ L.length + ks.length
  | [], _ => Nat.le_refl _
  | k :: ks, L => by
    have a := foldl_len ks (ins L k)
    have b := len_ins L k
    rw [List.foldl_cons, List.length_cons]
    omega
theorem nd_sof (ks : List Key) : (sof ks).Nodup := foldl_nd ks [] List.nodup_nil
theorem mem_sof {ks : List Key} {j : Key} : j ∈ sof ks ↔ j ∈ ks := by
  rw [show sof ks = ks.foldl ins [] from rfl, foldl_mem]
  simp
theorem len_sof (ks : List Key) : (sof ks).length ≤ ks.length := by
  have a := foldl_len ks []
  simpa [sof] using a
theorem led0 (w : World) : w.params.followText "set-order" = true ∨ (SetTable.fresh 0 0 (!w.params.followText "set-order")).led = true := by
  show _ ∨ (!w.params.followText "set-order") = true
  cases w.params.followText "set-order"
  · exact .inr rfl
  · exact .inl rfl
section
variable {prog : Program} {w : World} {A : Around} {E : Value → Shared → Prop} {s : Shared}
/-- a built-in class is called: its __new__, the check of its __init__, its __init__ -/
theorem type_run {T nid iid : String} {Bi : Builtin} {xs : List Value} {Q Q₁ : Value → Shared → Prop} (ft : TypeCalled T nid iid) (ok : checkTypeCall T ⟨xs, []⟩ = pure ()) (ent : entryFor table iid = some Bi)
    (new : codeAny (model prog w) A.in1 (.call (.builtin nid) ⟨.type T :: xs, []⟩) (wants Q₁ E) s)
    (next : ∀ x s₁, Q₁ x s₁ → s₁.TypeIs x T ∧ codeAny (model prog w) A.in1 (.call (.builtin iid) ⟨x :: xs, []⟩) (wants (fun r s₂ => r = .none ∧ Q x s₂) E) s₁) :
    wpAny (model prog w) A (call (.type T) xs) Q E s := by
  obtain ⟨c, tl, z0⟩ := ft.mro
  have z1 := ft.made
  have z2 := ft.sub
  refine wpAny_call (codeAny_of_tree ?_)
  show wpAny _ _ (callAny (.type T) _) _ _ _
  refine wpAny_pure ⟨Code.quiet_builtin _ (by decide +kernel), codeAny_builtin F.entry_type_call ?_⟩
  rw [Around.under_plain (weight_type_call_type T xs []) rfl]
  have z3 := ft.notType
  have z4 := ft.canCreate
  repeat (any_goals (first | assumption | wp_step))
  refine codeAny_mono new fun r s₁ hr => ?_
  cases r with
  | error e => exact hr
  | ok fl =>
    cases fl with
    | ret x =>
      obtain ⟨tx, cx⟩ := next _ _ hr
      have z5 := ft.init.lookup
      have z6 := ft.init.bind x
      repeat (any_goals (first | assumption | wp_step))
      refine codeAny_mono cx fun r₂ s₂ hr₂ => ?_
      cases r₂ with
      | error e => exact hr₂
      | ok fl₂ =>
        cases fl₂ with
        | ret r =>
          obtain ⟨rfl, q⟩ := hr₂
          repeat (any_goals (first | assumption | wp_step))
        | _ => exact hr₂.elim
    | _ => exact hr.elim
end
abbrev clean (w : World) : Obj := { cls := .type "set", dict := none, data := .set #[] 0 (.fresh 0 0 (!w.params.followText "set-order")) }
section
variable {P : Program} {w : World} {A : Around} {E : Value → Shared → Prop} {s : Shared}
theorem setM_clean {h : Heap} {a : Addr} (ha : h.get? a = some (clean w)) : SetM P w h a [] :=
  ⟨_, #[], 0, _, { at_ := ha, ex := ⟨rfl, rfl, rfl⟩, da := rfl, en := (fun e he => by simp at he), pm := .nil, nd := List.nodup_nil, sz := (by decide), ft := (by rfl), ri := List.Pairwise.nil, le := led0 w }⟩
theorem upd_loop {I : Addr} {fp wr : List Addr} {G : Array GenState → Array GenState → Prop} {n : Nat} {Pv : Nat → Value → Prop} {St : Nat → Shared → Prop} {R : Result → Shared → Prop}
    (W : WalksS P w A.in1 I fp wr G n Pv St) {a : Addr} (ha : a ∉ fp) {ks : List Key} (hn : n = ks.length) (few : ks.length + 1 < scanBound) (hv : ∀ i v, Pv i v → ∃ k, ks[i]? = some k ∧ RelV (kV k) v) :
    ∀ (m i : Nat) (s : Shared), n - i = m → i ≤ n → St i s → SetM P w s.heap a (sof (ks.take i)) →
      (∀ s', Moved (a :: wr) G s s' → SetM P w s'.heap a (sof ks) → R (.ok (.ret .none)) s') →
      codeAny (model P w) A (.builtin "set.update.loop" ⟨[.ref a, .ref I], []⟩) R s := by
  have haw : a ∉ wr := fun z => ha (W.sub _ z)
  have more : ∀ b ∈ wr, b ∈ a :: wr := fun b z => List.mem_cons_of_mem _ z
  intro m
  induction m with
  | zero =>
    intro i s hm hi st M hR
    obtain rfl : i = n := by omega
    refine codeAny_builtin F.entry_set_update_loop ?_
    rw [Around.under_plainId F.plain_set_update_loop _]
    show wpAny _ A.in1 (pyNext (.ref I) >>= _) _ _ s
    refine wpAny_bind (W.done s _ _ st fun s' mv => ?_)
    show wpAny _ A.in1 (ret Value.none) _ _ s'
    refine wpAny_pure (hR s' (mv.mono more) ?_)
    have M2 := M.to fun o e => mv.heap a o haw e
    rw [hn, List.take_length] at M2
    exact M2
  | succ m ih =>
    intro i s hm hi st M hR
    have lt : i < n := by omega
    refine codeAny_builtin F.entry_set_update_loop ?_
    rw [Around.under_plainId F.plain_set_update_loop _]
    show wpAny _ A.in1 (pyNext (.ref I) >>= _) _ _ s
    refine wpAny_bind (W.item i s _ _ lt st fun v s1 hP st1 mv => ?_)
    obtain ⟨k, hk, rv⟩ := hv i v hP
    have M1 := M.to fun o e => mv.heap a o haw e
    have few1 : (sof (ks.take i)).length + 1 < scanBound := by
      have z := len_sof (ks.take i)
      rw [List.length_take] at z
      omega
    show wpAny _ A.in1 (holding [v] (setAdd a v) >>= _) _ _ s1
    refine wpAny_bind (wpAny_holding ?_)
    unfold setAdd
    refine wpAny_holding (wpAny_bind ((mixKind P w).pyHash (kV_is rv) ?_))
    refine add_hashed (s := { s1 with toks := s1.toks + 1 }) rv M1 few1 fun g b sb M2 => ?_
    rw [← sof_take hk] at M2
    refine wpAny_pure ⟨plainId_quiet F.plain_set_update_loop _, ih (i + 1) _ (by omega) lt (W.frame _ s1 _ _ st1 (Nat.le_succ _) fun b hb o e => ?_) M2 fun s2 mv2 M3 => ?_⟩
    · rw [sb.2 b fun z : b = a => ha (z ▸ hb)]
      exact e
    · refine hR s2 (Moved.trans W.gtrans ((mv.mono more).then_heap (Nat.le_succ _) fun b o hb e => ?_) mv2) M3
      rw [sb.2 b fun z : b = a => hb (z ▸ List.mem_cons_self)]
      exact e
theorem vals_at {ks : List Key} {us : List Value} (r : Vals (ks.map kV) us) {i : Nat} {v : Value} (h : us[i]? = some v) : ∃ k, ks[i]? = some k ∧ RelV (kV k) v := by
  have lt : i < ks.length := by
    have e := r.length
    rw [List.length_map] at e
    rw [e]
    exact (List.getElem?_eq_some_iff.mp h).1
  obtain ⟨u, hu, ru⟩ := r.get (i := i) (x := kV ks[i]) (by simp [lt])
  rw [h] at hu
  cases hu
  exact ⟨ks[i], List.getElem?_eq_getElem lt, ru⟩
theorem call_set {l : Addr} {us : List Value} {ks : List Key} {Q : Value → Shared → Prop} (hh : A.handled = none) (hl : s.heap.IsList l us.toArray ∨ s.heap.IsTuple l us.toArray) (rv : Vals (ks.map kV) us) (few : ks.length + 1 < scanBound)
    (q : ∀ (g : Heap) (tk : Nat), SetM P w g s.heap.objs.size (sof ks) → (∀ b o, s.heap.get? b = some o → g.get? b = some o) → Q (.ref s.heap.objs.size) { s with heap := g, toks := tk }) :
    wpAny (model P w) A (call (.type "set") [.ref l]) Q E s := by
  refine type_run (Q₁ := fun x s₁ => x = .ref s.heap.objs.size ∧ s₁ = { s with heap := s.heap.push (clean w) }) F.called_set (F.typeCall_set_1 _) F.entry_set_init (code_set_led1 (.ref l) ⟨rfl, rfl⟩) fun x s₁ hx => ?_
  obtain ⟨rfl, rfl⟩ := hx
  have aS : (s.heap.push (clean w)).get? s.heap.objs.size = some (clean w) := Heap.get?_push_size _ rfl
  have tS : Shared.TypeIs { s with heap := s.heap.push (clean w) } (.ref s.heap.objs.size) "set" := ⟨_, aS, rfl⟩
  refine ⟨tS, codeAny_call_builtin F.called_set.init.plain F.entry_set_init (check_set_init_1 tS ?_)⟩
  have lS : l < s.heap.objs.size := by
    rcases hl with ⟨o, e, _⟩ | ⟨o, e, _⟩ <;> exact Heap.lt_size e
  have hh3 : A.in1.in1.in1.handled = none := by simp [hh]
  have nI : l ≠ (s.heap.push (clean w)).objs.size := by
    rw [Heap.size_push]
    exact Nat.ne_of_lt (Nat.lt_succ_of_lt lS)
  have nS : s.heap.objs.size ∉ [(s.heap.push (clean w)).objs.size, l] := by
    rw [Heap.size_push]
    simp only [List.mem_cons, List.not_mem_nil, or_false, not_or]
    exact ⟨Nat.ne_of_lt (Nat.lt_succ_self _), Nat.ne_of_gt lS⟩
  have hv : ∀ (i : Nat) (v : Value), us.toArray[i]? = some v → ∃ k, ks[i]? = some k ∧ RelV (kV k) v := fun i v e => vals_at rv (by rw [List.getElem?_toArray] at e; exact e)
  have hn : us.toArray.size = ks.length := by rw [List.size_toArray, ← rv.length, List.length_map]
  rcases hl with hl | hl
  · obtain ⟨⟨ocls, odict, odata, oslots⟩, hol, hcl, nl, hdl⟩ := hl
    simp only at hcl hdl
    subst hcl hdl
    have hol1 : (s.heap.push (clean w)).get? l = some { cls := .type "list", dict := odict, data := .seq us.toArray nl, slots := oslots } := Heap.get?_push_of_some _ hol
    have y1 := F.sub_list_set
    have y2 := F.sub_list_frozenset
    have y3 : (Value.type "list" == Value.type "dict") = false := by decide
    have hl1 : (s.heap.push (clean w)).IsList l us.toArray := ⟨_, hol1, rfl, nl, rfl⟩
    unfold Builtin.«set.__init__» noKeywords Builtin.Frozenset.updateFrom
    generalize hPI : pyIter = PI
    wp_walk
    subst hPI

    refine wpAny_pyIter_list hl1 (wpAny_bind (wpAny_runValue ?_))
    refine upd_loop ((Walks.list hh3 _ l nI us.toArray).toS) nS hn few hv (us.toArray.size - 0) 0 _ (by omega) (Nat.zero_le _) ⟨⟨_, Heap.get?_push_size _ rfl, rfl, rfl⟩, hl1.push _⟩ (setM_clean (Heap.get?_push_of_some _ aS)) fun s' mv M => ?_
    obtain ⟨h', g', d', tk', os'⟩ := s'
    obtain rfl : g' = s.gens := mv.gens
    obtain rfl : d' = s.drawn := mv.drawn
    obtain rfl : os' = s.os := mv.os
    show wpAny _ _ _ _ _ _
    refine wpAny_pure ?_
    show wpAny _ _ (ret Value.none) _ _ _
    refine wpAny_pure ⟨rfl, q h' tk' M fun b o e => ?_⟩
    have lt := Heap.lt_size e
    refine mv.heap b o ?_ (Heap.get?_push_of_some _ (Heap.get?_push_of_some _ e))
    simp only [List.mem_cons, List.not_mem_nil, or_false, not_or]
    exact ⟨Nat.ne_of_lt lt, by rw [Heap.size_push]; exact Nat.ne_of_lt (Nat.lt_succ_of_lt lt)⟩
  · obtain ⟨⟨ocls, odict, odata, oslots⟩, hol, hcl, nl, hdl⟩ := hl
    simp only at hcl hdl
    subst hcl hdl
    have hol1 : (s.heap.push (clean w)).get? l = some { cls := .type "tuple", dict := odict, data := .seq us.toArray nl, slots := oslots } := Heap.get?_push_of_some _ hol
    have y1 := F.sub_tuple_set
    have y2 := F.sub_tuple_frozenset
    have y3 : (Value.type "tuple" == Value.type "dict") = false := by decide
    have hl1 : (s.heap.push (clean w)).IsTuple l us.toArray := ⟨_, hol1, rfl, nl, rfl⟩
    unfold Builtin.«set.__init__» noKeywords Builtin.Frozenset.updateFrom
    generalize hPI : pyIter = PI
    wp_walk
    subst hPI

    refine wpAny_pyIter_tuple hl1 (wpAny_bind (wpAny_runValue ?_))
    refine upd_loop ((Walks.tuple hh3 _ l nI us.toArray).toS) nS hn few hv (us.toArray.size - 0) 0 _ (by omega) (Nat.zero_le _) ⟨⟨_, Heap.get?_push_size _ rfl, rfl, rfl⟩, hl1.push _⟩ (setM_clean (Heap.get?_push_of_some _ aS)) fun s' mv M => ?_
    obtain ⟨h', g', d', tk', os'⟩ := s'
    obtain rfl : g' = s.gens := mv.gens
    obtain rfl : d' = s.drawn := mv.drawn
    obtain rfl : os' = s.os := mv.os
    show wpAny _ _ _ _ _ _
    refine wpAny_pure ?_
    show wpAny _ _ (ret Value.none) _ _ _
    refine wpAny_pure ⟨rfl, q h' tk' M fun b o e => ?_⟩
    have lt := Heap.lt_size e
    refine mv.heap b o ?_ (Heap.get?_push_of_some _ (Heap.get?_push_of_some _ e))
    simp only [List.mem_cons, List.not_mem_nil, or_false, not_or]
    exact ⟨Nat.ne_of_lt lt, by rw [Heap.size_push]; exact Nat.ne_of_lt (Nat.lt_succ_of_lt lt)⟩
end
end PSS

set_option Elab.async false
set_option linter.all false
set_option maxRecDepth 100000
set_option maxHeartbeats 8000000
/-! sets of keys as tracked things: set(xs), len, in, sorted -/
namespace PSG
open PySem PySem.Spec L2 PSS
open PyProof.Rows (IntsAre AllBare StrsAre)
def SetMO (P : Program) (w : World) (a : Addr) (L : List Key) : HO := .ext fun h => SetM P w h a L
theorem setMO_new {P : Program} {w : World} {H : Hp} {h : Heap} {a : Addr} {L : List Key} (M : SetM P w h a L) : ObjOk P w H h a (SetMO P w a L) := by
  have ⟨o, es, ep, t, J⟩ := M
  exact ⟨M, ⟨o, J.at_⟩, fun h1 h2 p k => p.to k⟩
section
variable {X : Cx}
theorem setMO_get {pins : List (Addr × Obj)} {σ : L2.St} {H : Hp} {s : Shared} {a : Addr} {L : List Key} (I : Inv X pins σ H s) (ha : H a = some (SetMO X.prog X.w a L)) : SetM X.prog X.w s.heap a L := (I.hok a _ ha).1
/-- set(xs) -/
def rSetOf (K : PySem.W.Frag) (P : Program) (w : World) : List V → Hp → VK → Prop := fun xs H Q => ∃ (l : Addr) (ks : List Key), xs = [.ref l] ∧ (SqL K H l (ks.map kV) ∨ SqT K H l (ks.map kV)) ∧ ks.length ≤ 1000 ∧
  ∀ a, H a = none → Q (.ref a) (upd H a (SetMO P w a (sof ks)))
theorem cr_setOf (hc : X.calm = true) : CallR X (.type "set") (rSetOf X.K X.prog X.w) := by
  intro pins s σ H xs us Q I r h
  obtain ⟨l, ks, rfl, hl, few, q⟩ := h
  rw [Vals.ref1 r]
  have hn : H s.heap.objs.size = none := I.hok.fresh (Nat.le_refl _)
  have fin : ∀ (its : List Value), Vals (ks.map kV) its → (s.heap.IsList l its.toArray ∨ s.heap.IsTuple l its.toArray) → wpAny (model X.prog X.w) X.A (call (.type "set") [.ref l]) (EP X pins σ Q) X.xe s := fun its rv hs =>
    call_set (P := X.prog) (w := X.w) (I.ok.hd hc) hs rv (by unfold scanBound; omega) fun g tk M k => ⟨.ref s.heap.objs.size, _, I.laid (t' := tk) k (Nat.le_refl _) (setMO_new M), rfl, q _ hn⟩
  rcases hl with hl | hl
  · obtain ⟨its, rv, pl, hz⟩ := I.list hl
    exact fin its rv (.inl pl.isList)
  · obtain ⟨its, rv, pl, hz⟩ := I.tuple hl
    exact fin its rv (.inr pl)
/-- len(a set) -/
def rLenM (P : Program) (w : World) : List V → Hp → VK → Prop := fun xs H Q => ∃ (a : Addr) (L : List Key), xs = [.ref a] ∧ H a = some (SetMO P w a L) ∧ Q (.int L.length) H
theorem cr_lenM : CallR X (.builtin "len") (rLenM X.prog X.w) := by
  intro pins s σ H xs us Q I r h
  obtain ⟨a, L, rfl, ha, q⟩ := h
  rw [Vals.ref1 r]
  obtain ⟨o, es, ep, t, J⟩ := setMO_get I ha
  have few : L.length < scanBound := J.sz
  refine call_len_set J.at_ J.ex J.da J.ft (by rw [J.len]; unfold scanBound at few; omega) ⟨.int L.length, H, I.tok _, ⟨_, by rw [J.len]⟩, q⟩
/-- k in a set -/
def rInM (P : Program) (w : World) (neg : Bool) : V → V → Hp → VK → Prop := fun x y H Q => ∃ (k : Key) (a : Addr) (L : List Key), x = kV k ∧ y = .ref a ∧ H a = some (SetMO P w a L) ∧ Q (.bl (if neg then !decide (k ∈ L) else decide (k ∈ L))) H
theorem op_inM : OpR X (compareOp .In) (rInM X.prog X.w false) := by
  intro pins s σ H x y v u Q I rx ry h
  obtain ⟨k, a, L, rfl, rfl, ha, q⟩ := h
  cases ry
  exact wpAny_inSet_of (kV_is rx) (key_scan rx) (setMO_get I ha).setOf ⟨.bl (decide (k ∈ L)), H, I.tok _, rfl, q⟩
theorem op_notInM : OpR X (compareOp .NotIn) (rInM X.prog X.w true) := by
  intro pins s σ H x y v u Q I rx ry h
  obtain ⟨k, a, L, rfl, rfl, ha, q⟩ := h
  cases ry
  exact wpAny_notInSet_of (kV_is rx) (key_scan rx) (setMO_get I ha).setOf ⟨.bl (!decide (k ∈ L)), H, I.tok _, rfl, q⟩
/-! sorted -/
theorem len_of_key {P : Program} {w : World} {h : Heap} {a : Addr} {L : List Key} {o : Obj} {es : Array (Int × Value)} {ep : Nat} {t : SetTable} {vs : List Value} (J : Is P w h a L o es ep t) (pm : vs.Perm (es.toList.map (·.2))) : vs.length = L.length := by
  rw [pm.length_eq, List.length_map, Array.length_toList, J.len]
theorem keys_perm {P : Program} {w : World} {h : Heap} {a : Addr} {L : List Key} {o : Obj} {es : Array (Int × Value)} {ep : Nat} {t : SetTable} {vs : List Value} (J : Is P w h a L o es ep t) (pm : vs.Perm (es.toList.map (·.2))) : (vs.map kOf).Perm L := by
  have z := pm.map kOf
  rw [List.map_map] at z
  exact z.trans J.pm
theorem keys_rel {P : Program} {w : World} {h : Heap} {a : Addr} {L : List Key} {o : Obj} {es : Array (Int × Value)} {ep : Nat} {t : SetTable} {vs : List Value} (J : Is P w h a L o es ep t) (pm : vs.Perm (es.toList.map (·.2))) : ∀ v ∈ vs, RelV (kV (kOf v)) v := by
  intro v hv
  obtain ⟨e, he, q⟩ := List.mem_map.mp (pm.mem_iff.mp hv)
  obtain ⟨k, r, _⟩ := J.en e he
  rw [← q, kOf_rel r]
  exact r
def isIK : Key → Prop := fun k => ∃ i, k = .inl i
def isSK : Key → Prop := fun k => ∃ x, k = .inr x
def gI : Value → Int := fun v => match kOf v with | .inl i => i | .inr _ => 0
def gS : Value → Str := fun v => match kOf v with | .inr x => x | .inl _ => Str.empty
theorem ints_of_keys : ∀ {vs : List Value}, (∀ v ∈ vs, RelV (kV (kOf v)) v ∧ isIK (kOf v)) → IntsAre vs (vs.map gI) ∧ vs.map kOf = (vs.map gI).map Sum.inl
  | [], _ => ⟨.nil, rfl⟩
  | v :: vs, h => by
    obtain ⟨h1, h2⟩ := ints_of_keys (vs := vs) fun u m => h u (List.mem_cons_of_mem _ m)
    obtain ⟨r, i, e⟩ := h v List.mem_cons_self
    rw [e] at r
    obtain ⟨t, rfl⟩ := r
    have g : gI (Value.int i t) = i := rfl
    refine ⟨?_, ?_⟩
    · rw [List.map_cons, g]
      exact .cons i t h1
    · rw [List.map_cons, List.map_cons, List.map_cons, h2, g]
      rfl
theorem strs_of_keys : ∀ {vs : List Value}, (∀ v ∈ vs, RelV (kV (kOf v)) v ∧ isSK (kOf v)) → StrsAre vs (vs.map gS) ∧ vs.map kOf = (vs.map gS).map Sum.inr
  | [], _ => ⟨.nil, rfl⟩
  | v :: vs, h => by
    obtain ⟨h1, h2⟩ := strs_of_keys (vs := vs) fun u m => h u (List.mem_cons_of_mem _ m)
    obtain ⟨r, x, e⟩ := h v List.mem_cons_self
    rw [e] at r
    obtain ⟨t, rfl⟩ := r
    have g : gS (Value.str x t) = x := rfl
    refine ⟨?_, ?_⟩
    · rw [List.map_cons, g]
      exact .cons x t h1
    · rw [List.map_cons, List.map_cons, List.map_cons, h2, g]
      rfl
theorem nodup_of_map {α β : Type} {f : α → β} {l : List α} (h : (l.map f).Nodup) : l.Nodup := List.Pairwise.of_map f (fun _ _ hne e => hne (congrArg f e)) h
theorem mem_map_inl {ns : List Int} {i : Int} : (Sum.inl i : Key) ∈ ns.map (Sum.inl : Int → Key) ↔ i ∈ ns := by
  rw [List.mem_map]
  exact ⟨fun ⟨j, m, e⟩ => by cases e; exact m, fun m => ⟨i, m, rfl⟩⟩
theorem mem_map_inr {ns : List Str} {i : Str} : (Sum.inr i : Key) ∈ ns.map (Sum.inr : Str → Key) ↔ i ∈ ns := by
  rw [List.mem_map]
  exact ⟨fun ⟨j, m, e⟩ => by cases e; exact m, fun m => ⟨i, m, rfl⟩⟩
/-- sorted(a set of whole numbers) -/
def rSortM (P : Program) (w : World) : List V → Hp → VK → Prop := fun vs H Q => ∃ (a : Addr) (L : List Key), vs = [.ref a] ∧ H a = some (SetMO P w a L) ∧ L.length < 64 ∧ (∀ k ∈ L, isIK k) ∧
  ∀ (ns : List Int) (p : Addr), ns.Pairwise (· < ·) → (∀ i : Int, i ∈ ns ↔ (Sum.inl i : Key) ∈ L) → ns.length = L.length → H p = none → Q (.ref p) (upd H p (.lst (ns.map V.int)))
theorem cr_sortM (hc : X.calm = true) : CallR X (.builtin "sorted") (rSortM X.prog X.w) := by
  intro pins s σ H xs us Q I r h
  obtain ⟨a, L, rfl, ha, few, ik, q⟩ := h
  rw [Vals.ref1 r]
  obtain ⟨o, es, ep, t, J⟩ := setMO_get I ha
  refine Calls.call_function_entry PyProof.Rows.kind_sorted PyProof.Rows.plain_sorted PyProof.Rows.entry_sorted (PyProof.Rows.args_sorted1 _) ?_
  unfold Builtin.«sorted»
  refine wpAny_bind (m := checkCount "sorted" 1 1 _) (wpAny_pure ?_)
  refine wpAny_bind (collect_set (A := X.A.in1) (I.ok.hd hc) ⟨o, J.at_, J.ex.1, J.da⟩ J.ft (by rw [J.len]; exact J.sz) J.ri J.le fun s1 vs k1 z1 g1 o1 pm => ?_)
  have vl := len_of_key J pm
  have kp := keys_perm J pm
  have kr := keys_rel J pm
  obtain ⟨ia, im⟩ := ints_of_keys fun v m => ⟨kr v m, ik _ (kp.mem_iff.mp (List.mem_map_of_mem m))⟩
  obtain ⟨g, b, d, tk, os⟩ := s1
  dsimp only at k1 z1 g1 o1 ⊢
  subst g1 o1
  have I1 : Inv X pins σ H { s with heap := g, drawn := d, toks := tk } := I.call (ch := []) (Un.kept k1) (I.hok.kept k1) I.bare (fun _ z => nomatch z)
  refine wpAny_bind (wpAny_newList ?_ (by rw [vl, sizeLine_eq]; omega))
  have aL : (g.push (PyProof.Rows.seqObj "list" vs.toArray 0)).get? g.objs.size = some (PyProof.Rows.seqObj "list" vs.toArray 0) := Heap.get?_push_size _ rfl
  refine wpAny_bind (wpAny_holding (wpAny_call_entry PyProof.Rows.slot_list_sort ⟨_, aL, rfl⟩ PyProof.Rows.entry_list_sort (PyProof.Rows.list_sort_tree aL ia (by rw [vl]; exact few) fun out ns a1 a2 a3 => ⟨_, rfl, ?_⟩) (PyProof.Rows.args_list_sort _)))
  obtain ⟨c, hcc⟩ := PyProof.Rows.sortedHeap_at (vs := vs) (out := out) aL
  have np : (ns.map (Sum.inl : Int → Key)).Perm L := (a2.map _).trans (im ▸ kp)
  have nl : ns.length = L.length := by
    have e := np.length_eq
    rw [List.length_map] at e
    exact e
  refine wpAny_pure ⟨_, rfl, .ref g.objs.size, upd H g.objs.size (.lst (ns.map V.int)), I1.laid (t' := tk) (fun b u e => ?_) (Nat.le_refl _)
    (show ObjOk X.prog X.w _ _ _ (.lst (ns.map V.int)) from ⟨by rw [List.length_map, nl, sizeLine_eq]; omega, out.toList, c, vals_of_ints a1, by rw [Array.toArray_toList]; exact hcc⟩), rfl,
    q ns _ (lt_of_le_nodup ns a3 (nodup_of_map (np.nodup_iff.mpr J.nd))) (fun i => by rw [← np.mem_iff, mem_map_inl]) nl (I1.hok.fresh (Nat.le_refl _))⟩
  have lt := Heap.lt_size e
  rw [PyProof.Rows.sortedHeap_old (Nat.ne_of_lt lt) (by rw [PyProof.Rows.size_push']; exact Nat.lt_succ_of_lt lt)]
  exact Heap.get?_push_of_some _ e
/-- sorted(a set of texts) -/
def rSortMS (P : Program) (w : World) : List V → Hp → VK → Prop := fun vs H Q => ∃ (a : Addr) (L : List Key), vs = [.ref a] ∧ H a = some (SetMO P w a L) ∧ L.length < 64 ∧ (∀ k ∈ L, isSK k) ∧
  ∀ (ys : List Str) (p : Addr), PyProof.Rows.sortedS ys = true → ys.Nodup → (∀ i : Str, i ∈ ys ↔ (Sum.inr i : Key) ∈ L) → ys.length = L.length → H p = none → Q (.ref p) (upd H p (.lst (ys.map V.str)))
theorem cr_sortMS (hc : X.calm = true) : CallR X (.builtin "sorted") (rSortMS X.prog X.w) := by
  intro pins s σ H xs us Q I r h
  obtain ⟨a, L, rfl, ha, few, ik, q⟩ := h
  rw [Vals.ref1 r]
  obtain ⟨o, es, ep, t, J⟩ := setMO_get I ha
  refine Calls.call_function_entry PyProof.Rows.kind_sorted PyProof.Rows.plain_sorted PyProof.Rows.entry_sorted (PyProof.Rows.args_sorted1 _) ?_
  unfold Builtin.«sorted»
  refine wpAny_bind (m := checkCount "sorted" 1 1 _) (wpAny_pure ?_)
  refine wpAny_bind (collect_set (A := X.A.in1) (I.ok.hd hc) ⟨o, J.at_, J.ex.1, J.da⟩ J.ft (by rw [J.len]; exact J.sz) J.ri J.le fun s1 vs k1 z1 g1 o1 pm => ?_)
  have vl := len_of_key J pm
  have kp := keys_perm J pm
  have kr := keys_rel J pm
  obtain ⟨ia, im⟩ := strs_of_keys fun v m => ⟨kr v m, ik _ (kp.mem_iff.mp (List.mem_map_of_mem m))⟩
  obtain ⟨g, b, d, tk, os⟩ := s1
  dsimp only at k1 z1 g1 o1 ⊢
  subst g1 o1
  have I1 : Inv X pins σ H { s with heap := g, drawn := d, toks := tk } := I.call (ch := []) (Un.kept k1) (I.hok.kept k1) I.bare (fun _ z => nomatch z)
  refine wpAny_bind (wpAny_newList ?_ (by rw [vl, sizeLine_eq]; omega))
  have aL : (g.push (PyProof.Rows.seqObj "list" vs.toArray 0)).get? g.objs.size = some (PyProof.Rows.seqObj "list" vs.toArray 0) := Heap.get?_push_size _ rfl
  refine wpAny_bind (wpAny_holding (wpAny_call_entry PyProof.Rows.slot_list_sort ⟨_, aL, rfl⟩ PyProof.Rows.entry_list_sort
    (PyProof.Rows.list_sort_treeK PyProof.Rows.strKind_oneLt (s := { s with heap := g.push (PyProof.Rows.seqObj "list" vs.toArray 0), drawn := d, toks := tk }) aL ia.keysOf (fun v₁ v₂ rest e => PyProof.Rows.keyKind_strs (by rw [← e]; exact ia)) (by rw [vl]; exact few) fun st hp hs => ⟨_, rfl, ?_⟩) (PyProof.Rows.args_list_sort _)))
  obtain ⟨ys, a1, a2, a3⟩ := PyProof.Rows.sorted_out_str ia hp hs
  obtain ⟨c, hcc⟩ := PyProof.Rows.sortedHeap_at (vs := vs) (out := (PyProof.Rows.arrOf st).map (·.2)) aL
  have np : (ys.map (Sum.inr : Str → Key)).Perm L := (a2.map _).trans (im ▸ kp)
  have nl : ys.length = L.length := by
    have e := np.length_eq
    rw [List.length_map] at e
    exact e
  refine wpAny_pure ⟨_, rfl, .ref g.objs.size, upd H g.objs.size (.lst (ys.map V.str)), I1.laid (t' := tk) (fun b u e => ?_) (Nat.le_refl _)
    (show ObjOk X.prog X.w _ _ _ (.lst (ys.map V.str)) from ⟨by rw [List.length_map, nl, sizeLine_eq]; omega, ((PyProof.Rows.arrOf st).map (·.2)).toList, c, vals_of_strs a1, by rw [Array.toArray_toList]; exact hcc⟩), rfl,
    q ys _ a3 (nodup_of_map (np.nodup_iff.mpr J.nd)) (fun i => by rw [← np.mem_iff, mem_map_inr]) nl (I1.hok.fresh (Nat.le_refl _))⟩
  have lt := Heap.lt_size e
  rw [PyProof.Rows.sortedHeap_old (Nat.ne_of_lt lt) (by rw [PyProof.Rows.size_push']; exact Nat.lt_succ_of_lt lt)]
  exact Heap.get?_push_of_some _ e
end
end PSG

set_option Elab.async false
set_option linter.all false
set_option maxRecDepth 100000
set_option maxHeartbeats 8000000
/-! {e for x in xs}, e a number or a text -/
namespace PSS
open PySem PySem.Spec PyProof.Rows L2
theorem set_add {P : Program} {w : World} {A : Around} {E : Value → Shared → Prop} {s : Shared} {a : Addr} {L : List Key} {k : Key} {x : Value} (rx : RelV (kV k) x) {Q : Value → Shared → Prop} (M : SetM P w s.heap a L) (room : L.length + 1 < scanBound)
    (q : ∀ g, Heap.SameBut a s.heap g → SetM P w g a (ins L k) → Q .none { s with heap := g, toks := s.toks + 1 }) : wpAny (model P w) A (call (.builtin "set.add") [.ref a, x]) Q E s := by
  refine wpAny_call_entry F.slot_set_add M.setOf.typeIs F.entry_set_add ?_ (F.args_set_add_2 _ _)
  unfold Builtin.«set.add» Builtin.Frozenset.oneOther
  simp only [List.isEmpty_nil, bind_assoc]
  unfold Builtin.Frozenset.addrOf setAdd
  refine wpAny_bind (wpAny_pure ?_)
  try dsimp only
  refine wpAny_bind (wpAny_pure ?_)
  try dsimp only
  refine wpAny_bind (wpAny_holding (wpAny_bind ((mixKind P w).pyHash (kV_is rx) ?_)))
  refine add_hashed (s := { s with toks := s.toks + 1 }) rx M room fun g b sb M2 => ?_
  show wpAny _ _ (ret Value.none) _ _ _
  exact wpAny_pure ⟨_, rfl, q g sb M2⟩
end PSS
namespace PSG
open PySem PySem.Spec L2 PSS
section
variable {X : Cx}
theorem add_in {pins : List (Addr × Obj)} {σ : L2.St} {H : Hp} {s : Shared} {E : Value → Shared → Prop} {D : Addr} {L : List Key} {k : Key} {x : Value} {Q : Value → Shared → Prop} (I : Inv X pins σ H s) (rx : RelV (kV k) x) (hD : H D = some (SetMO X.prog X.w D L)) (room : L.length + 1 < scanBound)
    (h : ∀ s', Inv X pins σ (upd H D (SetMO X.prog X.w D (ins L k))) s' → Q .none s') : wpAny (model X.prog X.w) X.A (call (.builtin "set.add") [.ref D, x]) Q E s := by
  refine set_add rx (setMO_get I hD) room fun g sb M => ?_
  have there : ∃ u, g.get? D = some u := by
    have ⟨o, es, ep, t, J⟩ := M
    exact ⟨o, J.at_⟩
  exact h _ (I.write (e := D) (t' := s.toks + 1) (by rw [hD]; trivial) (.inl rfl) (fun b u n e => (sb.2 b n).trans e) there (setMO_new M))
/-- what a turn of the comprehension makes: the key goes into the set at D -/
abbrev PutM (P : Program) (w : World) (D : Addr) (Nx : Hp → Prop) : VK := fun y H => ∃ (k : Key) (L : List Key), y = kV k ∧ H D = some (SetMO P w D L) ∧ L.length + 1 < scanBound ∧ Nx (upd H D (SetMO P w D (ins L k)))
def tScM (P : Program) (w : World) (wi : TI) (g : TG) (tt : TT) (te : TE) (vs : List Nat) : TE := fun σ H Q => wi σ H fun J H1 => ∀ D, H1 D = none → ∃ W : Nat → Nat → Hp → Prop, (∃ m, W 0 m (upd H1 D (SetMO P w D []))) ∧ ∀ i m H, W i m H →
  (J.stop i H ∧ Q (.ref D) H) ∨ (J.go i H ∧ ∃ Nx : Hp → Prop, (∀ H', Nx H' → ∃ m', m' < m ∧ W (i + 1) m' H') ∧ ∀ x H', J.yld i H x H' → g x (wipe σ vs) H' fun σ2 H2 => wipe σ2 vs = wipe σ vs ∧ tt σ2 H2 fun b H3 =>
    if b = true then te σ2 H3 (PutM P w D Nx) else Nx H3)
theorem scM_core {pins : List (Addr × Obj)} {s : Shared} {σ : L2.St} {H : Hp} {Q : VK} {elt tg iter : Expr} {ifs : List Expr} {scope : Scope} {own : List (PySem.Str × Nat)} {pos pos' : Pos} {wi : TI} {g : TG} {tt : TT} {te : TE} {use : Option (Value → Sem Unit)} {Qf : Value → Shared → Prop}
    (hc : X.calm = true) (hN : X.N.Nodup) (I : Inv X pins σ H s) (hi : PI X tg iter wi) (ok : BlkOk X.N X.env.scope scope own)
    (hg : ∀ (s : Shared) (H : Hp) (C : Addr) (cl : List (PySem.Str × Addr)) (fp : List Addr), PG (X.blk s H scope (compEnvC scope cl C X.env) fp) tg g) (ht : ∀ (s : Shared) (H : Hp) (C : Addr) (cl : List (PySem.Str × Addr)) (fp : List Addr), PTs (X.blk s H scope (compEnvC scope cl C X.env) fp) ifs tt)
    (he : ∀ (s : Shared) (H : Hp) (C : Addr) (cl : List (PySem.Str × Addr)) (fp : List Addr), PE (X.blk s H scope (compEnvC scope cl C X.env) fp) elt te) (hs : ∀ x, foldedSetIterable iter X.env x = pure x)
    (h : tScM X.prog X.w wi g tt te (own.map (·.2)) σ H Q)
    (back : ∀ D C s' m H', Inv X pins σ H' s' → Q (.ref D) H' → s'.heap.Ns C m → FpOk X pins H' C → compPost (model X.prog X.w) X.A X.xe use Qf (.ref D) C (.ok .next) s') :
    wpAny (model X.prog X.w) X.A (comprehension (.SetComp elt [⟨tg, iter, ifs, 0⟩] scope pos) scope X.env pos' (newSet (.type "set")) false (eval iter X.env) use) Qf X.xe s := by
  have cellsOk : ∀ y ∈ scope.names, y.2 = .free → ∃ c, X.env.cells.lookup y.1 = some c := fun y hy e => (ok.free y hy e).elim (fun k => I.ok.has _ (.inl k)) fun k => I.ok.has _ (.inr k)
  refine wpAny_comprehension_free (use := use) rfl hs (closure_ok cellsOk) ok.kind (fun y hy e => by rw [ok.uniq y hy, e]) (thn (hi.run pins s σ H _ I h) fun xv s1 hx => thn hx fun itv s2 h2 => ?_)
  obtain ⟨it, fp, tn, J, H2, e, I2, T, st2, f2, q⟩ := h2
  subst e
  refine PpSet.newSet_ok (newEnv_comp ?_)
  generalize hD : s2.heap.objs.size = D
  obtain ⟨W, ⟨m0, w0⟩, turn⟩ := q D (I2.hok.fresh (Nat.le_of_eq hD))
  generalize hs3 : ({ s2 with heap := s2.heap.push (clean X.w) } : Shared) = s3
  have h3 : s3.heap = s2.heap.push (clean X.w) := by rw [← hs3]
  have I3 : Inv X pins σ (upd H2 D (SetMO X.prog X.w D [])) s3 := by
    rw [← hs3]
    refine I2.laid (t' := s2.toks) (fun b o e => Heap.get?_push_of_some _ e) (Nat.le_of_eq hD) ?_
    rw [← hD]
    exact setMO_new (setM_clean (Heap.get?_push_size _ rfl))
  have f3 : ∀ b ∈ fp, FpOk X pins (upd H2 D (SetMO X.prog X.w D [])) b ∧ b < s3.heap.objs.size := fun b hb => by
    obtain ⟨o, e, _⟩ := T.obj _ _ st2 b hb
    have lt := Heap.lt_size e
    refine ⟨⟨?_, (f2 b hb).2⟩, by rw [h3, Heap.size_push]; exact Nat.lt_succ_of_lt lt⟩
    rw [upd_ne (by rw [← hD]; exact Nat.ne_of_lt lt)]
    exact (f2 b hb).1
  have st3 : tn 0 s3.heap := T.keep _ _ _ st2 fun b _ o e => by rw [h3]; exact Heap.get?_push_of_some _ e
  have I4 := block_start I3 ok hN f3
  have pg := hg s3 (upd H2 D (SetMO X.prog X.w D [])) s3.heap.objs.size (cellsFrom (s3.heap.objs.size + 1) scope.names (cloFrom X.env.cells scope.names [])) fp
  have pt := ht s3 (upd H2 D (SetMO X.prog X.w D [])) s3.heap.objs.size (cellsFrom (s3.heap.objs.size + 1) scope.names (cloFrom X.env.cells scope.names [])) fp
  have pe := he s3 (upd H2 D (SetMO X.prog X.w D [])) s3.heap.objs.size (cellsFrom (s3.heap.objs.size + 1) scope.names (cloFrom X.env.cells scope.names [])) fp
  show codeAny _ _ (.compStart (.SetComp elt [⟨tg, iter, ifs, 0⟩] scope pos) 0 (.ref it) (.ref D) (compEnvC scope (cellsFrom (s3.heap.objs.size + 1) scope.names (cloFrom X.env.cells scope.names [])) s3.heap.objs.size X.env)) (compPost (model X.prog X.w) X.A X.xe use Qf (.ref D) s3.heap.objs.size) { s3 with heap := pushCells (s3.heap.push { cls := .type "dict", data := .dict #[] }) scope.names }
  have none3 : ∀ b ∈ fp, (upd H2 D (SetMO X.prog X.w D [])) b = none := fun b hb => (f3 b hb).1.1
  generalize hce : compEnvC scope (cellsFrom (s3.heap.objs.size + 1) scope.names (cloFrom X.env.cells scope.names [])) s3.heap.objs.size X.env = ce at I4 pg pt pe ⊢
  have cL : ce.locals = s3.heap.objs.size := by subst hce; rfl
  generalize hH3 : upd H2 D (SetMO X.prog X.w D []) = H3 at I3 I4 pg pt pe w0 none3 f3
  generalize hs4 : ({ s3 with heap := pushCells (s3.heap.push { cls := .type "dict", data := .dict #[] }) scope.names } : Shared) = s4 at I4 ⊢
  have st4 : tn 0 s4.heap := T.keep _ _ _ st3 fun b _ o e => by rw [← hs4]; exact pushCells_keeps _ _ _ _ (Heap.get?_push_of_some _ e)
  have foot : ∀ {σ' : L2.St} {H' : Hp} {s' : Shared}, Inv (X.blk s3 H3 scope ce fp) [] σ' H' s' → (∀ b ∈ fp, H' b = none) → ∀ b ∈ fp, FpOk (X.blk s3 H3 scope ce fp) [] H' b := fun {σ' H' s'} I' hn b hb =>
    ⟨hn b hb, (I'.ok.exf b hb).1, I'.ok.exfs b hb, .inl hb, fun x c e => (I'.ok.exf b hb).2 x c e, fun p hp => absurd (show p ∈ ([] : List (Addr × Obj)) ++ [] from hp) (by simp)⟩
  have loop : codeAny (model X.prog X.w) X.A (.compLoop (.SetComp elt [⟨tg, iter, ifs, 0⟩] scope pos) 0 (.ref it) (.ref D) ce) (compPost (model X.prog X.w) X.A X.xe use Qf (.ref D) s3.heap.objs.size) s4 := by
    refine PpSet.compLoopS_any (fun n s' => ∃ i H', Inv (X.blk s3 H3 scope ce fp) [] (wipe σ (own.map (·.2))) H' s' ∧ tn i s'.heap ∧ (∀ b ∈ fp, H' b = none) ∧ W i n H') ?_ m0 ⟨0, H3, I4, st4, none3, w0⟩
    rintro n s5 ⟨i, H5, I5, st5, n5, w5⟩
    rcases turn i n H5 w5 with ⟨stop, qq⟩ | ⟨go, Nx, hNx, step⟩
    · refine thnF (T.done (X.blk s3 H3 scope ce fp) rfl rfl rfl hc i [] s5 _ H5 (fun _ _ => False) I5 (foot I5 n5) st5 stop) fun r s6 ⟨hr, I6⟩ => ?_
      subst hr
      have I7 : Inv X pins σ H5 s6 := I3.call' (ch := fp) I6.os I6.base I6.hok I6.bare fun b hb => ⟨(f3 b hb).1.2.2.2.1, (f3 b hb).1.2.1, (f3 b hb).1.2.2.2.2.1, (f3 b hb).1.2.2.2.2.2⟩
      have nC : H5 s3.heap.objs.size = none := cL ▸ (show H5 ce.locals = none from I6.free)
      obtain ⟨m, hn, _⟩ := I6.loc
      exact back D s3.heap.objs.size s6 m H5 I7 qq (cL ▸ (show s6.heap.Ns ce.locals m from hn)) (I3.fpOk (Nat.le_refl _) nC)
    · refine thnF (T.item (X.blk s3 H3 scope ce fp) rfl rfl rfl hc i [] s5 _ H5 (fun _ _ => False) I5 (foot I5 n5) st5 go) fun r s6 ⟨u, hr, h6⟩ => ?_
      subst hr
      refine thnF h6 fun _ s7 ⟨x, H7, I7, r7, y7, st7, n7⟩ => ?_
      have I8 := I7.pinned (foot I7 n7) (T.obj _ _ st7)
      refine thnF (pg.run _ s7 _ H7 x u _ I8 r7 (step x H7 y7)) fun _ s8 ⟨σ8, H8, I8, hw8, q8⟩ => ?_
      refine thnF (pt.run _ s8 σ8 H8 _ I8 q8) fun b s9 ⟨H9, I9, q9⟩ => ?_
      have turnEnd : ∀ {s' : Shared} {H' : Hp}, Inv (X.blk s3 H3 scope ce fp) ([] ++ pinsAt fp s7.heap) σ8 H' s' → Nx H' → ∃ m, m < n ∧ ∃ i H', Inv (X.blk s3 H3 scope ce fp) [] (wipe σ (own.map (·.2))) H' s' ∧ tn i s'.heap ∧ (∀ b ∈ fp, H' b = none) ∧ W i m H' := fun {s' H'} I' nx => by
        obtain ⟨m', hm, w'⟩ := hNx H' nx
        have pin : ∀ b ∈ fp, ∀ o, s7.heap.get? b = some o → s'.heap.get? b = some o ∧ H' b = none := fun b hb o e => by
          have z := I'.pin (b, o) (List.mem_append_right _ (List.mem_append_right _ (mem_pinsAt hb e)))
          exact ⟨z.1, z.2.1⟩
        refine ⟨m', hm, i + 1, H', (I'.unpinned (pins := [])).weak (by rw [← hw8, wipe_length]) (fun j v e => ?_), T.keep _ _ _ st7 fun b hb o e => (pin b hb o e).1, fun b hb => ?_, w'⟩
        · rw [← hw8] at e
          exact (wipe_some e).1
        · obtain ⟨o, e, _⟩ := T.obj _ _ st7 b hb
          exact (pin b hb o e).2
      cases b with
      | false =>
        simp only [Bool.false_eq_true, if_false] at q9 ⊢
        exact turnEnd I9 q9
      | true =>
        simp only [if_true] at q9 ⊢
        refine thnF (pe.run _ s9 σ8 H9 _ I9 q9) fun z s10 ⟨yv, H10, I10, r10, k, L, ey, hD10, room, nx⟩ => ?_
        subst ey
        exact add_in (X := X.blk s3 H3 scope ce fp) I10 r10 hD10 room fun s11 I11 => turnEnd I11 nx
  exact PpSet.codeAny_compStart_set loop (T.self X.A 0 _ _ _ st4 loop)
theorem pe_scM {elt tg iter : Expr} {ifs : List Expr} {scope : Scope} {own : List (PySem.Str × Nat)} {pos : Pos} {wi : TI} {g : TG} {tt : TT} {te : TE} (hc : X.calm = true) (hN : X.N.Nodup) (hi : PI X tg iter wi) (ok : BlkOk X.N X.env.scope scope own)
    (hg : ∀ (s : Shared) (H : Hp) (C : Addr) (cl : List (PySem.Str × Addr)) (fp : List Addr), PG (X.blk s H scope (compEnvC scope cl C X.env) fp) tg g) (ht : ∀ (s : Shared) (H : Hp) (C : Addr) (cl : List (PySem.Str × Addr)) (fp : List Addr), PTs (X.blk s H scope (compEnvC scope cl C X.env) fp) ifs tt)
    (he : ∀ (s : Shared) (H : Hp) (C : Addr) (cl : List (PySem.Str × Addr)) (fp : List Addr), PE (X.blk s H scope (compEnvC scope cl C X.env) fp) elt te) (hs : ∀ x, foldedSetIterable iter X.env x = pure x := by intro _; rfl) :
    PE X (.SetComp elt [⟨tg, iter, ifs, 0⟩] scope pos) (tScM X.prog X.w wi g tt te (own.map (·.2))) := by
  refine ⟨fun pins s σ H Q I h => ?_⟩
  rw [PpSet.eval_SetComp]
  refine scM_core hc hN I hi ok hg ht he hs h fun D C s' m H' I' q hn f => ⟨m, hn, fun h2 sb => ?_⟩
  obtain ⟨f0, f1, f2, f3, f4, f5⟩ := f
  exact ⟨.ref D, H', I'.turned (t' := s'.toks) (fun b o hb e => (sb.2 b hb).trans e) f0 f1 f3 f4 f5, rfl, q⟩
end
/-- over a list that stands still -/
theorem scM_list {P : Program} {w : World} {K : PySem.W.Frag} {a : Addr} {xs : List V} {g : TG} {tt : TT} {te : TE} {vs : List Nat} {σ : L2.St} {H1 : Hp} {D : Addr} {Qd : Hp → Prop} (Pv : Nat → Hp → Prop) (h0 : Pv 0 (upd H1 D (SetMO P w D []))) (hl : ∀ i H, i ≤ xs.length → Pv i H → SqL K H a xs)
    (hs : ∀ i x H, xs[i]? = some x → Pv i H → g x (wipe σ vs) H fun σ2 H2 => wipe σ2 vs = wipe σ vs ∧ tt σ2 H2 fun b H3 => if b = true then te σ2 H3 (PutM P w D (Pv (i + 1))) else Pv (i + 1) H3) (hd : ∀ H, Pv xs.length H → Qd H) :
    ∃ W : Nat → Nat → Hp → Prop, (∃ m, W 0 m (upd H1 D (SetMO P w D []))) ∧ ∀ i m H, W i m H →
      ((Itl K a).stop i H ∧ Qd H) ∨ ((Itl K a).go i H ∧ ∃ Nx : Hp → Prop, (∀ H', Nx H' → ∃ m', m' < m ∧ W (i + 1) m' H') ∧ ∀ x H', (Itl K a).yld i H x H' → g x (wipe σ vs) H' fun σ2 H2 => wipe σ2 vs = wipe σ vs ∧ tt σ2 H2 fun b H3 =>
        if b = true then te σ2 H3 (PutM P w D Nx) else Nx H3) := by
  refine ⟨fun i m H => m = xs.length - i ∧ i ≤ xs.length ∧ Pv i H, ⟨_, rfl, Nat.zero_le _, h0⟩, ?_⟩
  rintro i m H ⟨rfl, le, p⟩
  have q := hl i H le p
  by_cases lt : i < xs.length
  · refine .inr ⟨⟨xs, xs[i], q, by simp [lt]⟩, Pv (i + 1), fun H' p' => ⟨xs.length - (i + 1), by omega, rfl, lt, p'⟩, fun x H' y => ?_⟩
    obtain ⟨rfl, y⟩ := y
    exact hs i x _ (y xs q) p
  · obtain rfl : i = xs.length := by omega
    exact .inl ⟨⟨xs, q, Nat.le_refl _⟩, hd H p⟩
theorem scM_tup {P : Program} {w : World} {K : PySem.W.Frag} {a : Addr} {xs : List V} {g : TG} {tt : TT} {te : TE} {vs : List Nat} {σ : L2.St} {H1 : Hp} {D : Addr} {Qd : Hp → Prop} (Pv : Nat → Hp → Prop) (h0 : Pv 0 (upd H1 D (SetMO P w D []))) (hl : ∀ i H, i ≤ xs.length → Pv i H → SqT K H a xs)
    (hs : ∀ i x H, xs[i]? = some x → Pv i H → g x (wipe σ vs) H fun σ2 H2 => wipe σ2 vs = wipe σ vs ∧ tt σ2 H2 fun b H3 => if b = true then te σ2 H3 (PutM P w D (Pv (i + 1))) else Pv (i + 1) H3) (hd : ∀ H, Pv xs.length H → Qd H) :
    ∃ W : Nat → Nat → Hp → Prop, (∃ m, W 0 m (upd H1 D (SetMO P w D []))) ∧ ∀ i m H, W i m H →
      ((Itt K a).stop i H ∧ Qd H) ∨ ((Itt K a).go i H ∧ ∃ Nx : Hp → Prop, (∀ H', Nx H' → ∃ m', m' < m ∧ W (i + 1) m' H') ∧ ∀ x H', (Itt K a).yld i H x H' → g x (wipe σ vs) H' fun σ2 H2 => wipe σ2 vs = wipe σ vs ∧ tt σ2 H2 fun b H3 =>
        if b = true then te σ2 H3 (PutM P w D Nx) else Nx H3) := by
  refine ⟨fun i m H => m = xs.length - i ∧ i ≤ xs.length ∧ Pv i H, ⟨_, rfl, Nat.zero_le _, h0⟩, ?_⟩
  rintro i m H ⟨rfl, le, p⟩
  have q := hl i H le p
  by_cases lt : i < xs.length
  · refine .inr ⟨⟨xs, xs[i], q, by simp [lt]⟩, Pv (i + 1), fun H' p' => ⟨xs.length - (i + 1), by omega, rfl, lt, p'⟩, fun x H' y => ?_⟩
    obtain ⟨rfl, y⟩ := y
    exact hs i x _ (y xs q) p
  · obtain rfl : i = xs.length := by omega
    exact .inl ⟨⟨xs, q, Nat.le_refl _⟩, hd H p⟩
end PSG

set_option Elab.async false
set_option linter.all false
set_option maxRecDepth 100000
set_option maxHeartbeats 8000000
/-! either of two roads; any comprehension over what is walked; sorted sets of one kind -/
namespace PSG
open PySem PySem.Spec L2 PSS
theorem pi_or {X : Cx} {tg iter : Expr} {w1 w2 : TI} (h1 : PI X tg iter w1) (h2 : PI X tg iter w2) : PI X tg iter fun σ H R => w1 σ H R ∨ w2 σ H R :=
  ⟨fun pins s σ H R I h => h.elim (fun z => h1.run pins s σ H R I z) fun z => h2.run pins s σ H R I z⟩
theorem cr_or {X : Cx} {f : Value} {r r' : List V → Hp → VK → Prop} (h : CallR X f r) (h' : CallR X f r') : CallR X f fun xs H Q => r xs H Q ∨ r' xs H Q :=
  fun pins s σ H xs us Q I rx z => z.elim (fun z => h pins s σ H xs us Q I rx z) fun z => h' pins s σ H xs us Q I rx z
theorem pe_or2 {X : Cx} {e : Expr} {t t' : TE} (h : PE X e t) (h' : PE X e t') : PE X e fun σ H Q => t σ H Q ∨ t' σ H Q :=
  ⟨fun pins s σ H Q I z => z.elim (fun z => h.run pins s σ H Q I z) fun z => h'.run pins s σ H Q I z⟩
/-- what a comprehension's reading asks, by an invariant over the turns -/
theorem w_run {J : It} {B : (Hp → Prop) → V → Hp → Prop} {Qd : Hp → Prop} {H0 : Hp} (n : Nat) (Pv : Nat → Hp → Prop) (h0 : Pv 0 H0)
    (hs : ∀ i H, i ≤ n → Pv i H → (i = n ∧ J.stop i H) ∨ (i < n ∧ J.go i H ∧ ∀ x H', J.yld i H x H' → B (Pv (i + 1)) x H')) (hd : ∀ H, Pv n H → Qd H) :
    ∃ W : Nat → Nat → Hp → Prop, (∃ m, W 0 m H0) ∧ ∀ i m H, W i m H → (J.stop i H ∧ Qd H) ∨ (J.go i H ∧ ∃ Nx : Hp → Prop, (∀ H', Nx H' → ∃ m', m' < m ∧ W (i + 1) m' H') ∧ ∀ x H', J.yld i H x H' → B Nx x H') := by
  refine ⟨fun i m H => m = n - i ∧ i ≤ n ∧ Pv i H, ⟨_, rfl, Nat.zero_le _, h0⟩, ?_⟩
  rintro i m H ⟨rfl, le, p⟩
  rcases hs i H le p with ⟨rfl, st⟩ | ⟨lt, go, y⟩
  · exact .inl ⟨st, hd H p⟩
  · exact .inr ⟨go, Pv (i + 1), fun H' p' => ⟨n - (i + 1), by omega, rfl, lt, p'⟩, y⟩
theorem w_list {K : PySem.W.Frag} {a : Addr} {xs : List V} {B : (Hp → Prop) → V → Hp → Prop} {Qd : Hp → Prop} {H0 : Hp} (Pv : Nat → Hp → Prop) (h0 : Pv 0 H0) (hl : ∀ i H, i ≤ xs.length → Pv i H → SqL K H a xs)
    (hs : ∀ i x H, xs[i]? = some x → Pv i H → B (Pv (i + 1)) x H) (hd : ∀ H, Pv xs.length H → Qd H) :
    ∃ W : Nat → Nat → Hp → Prop, (∃ m, W 0 m H0) ∧ ∀ i m H, W i m H → ((Itl K a).stop i H ∧ Qd H) ∨ ((Itl K a).go i H ∧ ∃ Nx : Hp → Prop, (∀ H', Nx H' → ∃ m', m' < m ∧ W (i + 1) m' H') ∧ ∀ x H', (Itl K a).yld i H x H' → B Nx x H') := by
  refine w_run xs.length Pv h0 (fun i H le p => ?_) hd
  have q := hl i H le p
  by_cases lt : i < xs.length
  · refine .inr ⟨lt, ⟨xs, xs[i], q, by simp [lt]⟩, fun x H' y => ?_⟩
    obtain ⟨rfl, y⟩ := y
    exact hs i x _ (y xs q) p
  · exact .inl ⟨by omega, ⟨xs, q, by omega⟩⟩
theorem w_tup {K : PySem.W.Frag} {a : Addr} {xs : List V} {B : (Hp → Prop) → V → Hp → Prop} {Qd : Hp → Prop} {H0 : Hp} (Pv : Nat → Hp → Prop) (h0 : Pv 0 H0) (hl : ∀ i H, i ≤ xs.length → Pv i H → SqT K H a xs)
    (hs : ∀ i x H, xs[i]? = some x → Pv i H → B (Pv (i + 1)) x H) (hd : ∀ H, Pv xs.length H → Qd H) :
    ∃ W : Nat → Nat → Hp → Prop, (∃ m, W 0 m H0) ∧ ∀ i m H, W i m H → ((Itt K a).stop i H ∧ Qd H) ∨ ((Itt K a).go i H ∧ ∃ Nx : Hp → Prop, (∀ H', Nx H' → ∃ m', m' < m ∧ W (i + 1) m' H') ∧ ∀ x H', (Itt K a).yld i H x H' → B Nx x H') := by
  refine w_run xs.length Pv h0 (fun i H le p => ?_) hd
  have q := hl i H le p
  by_cases lt : i < xs.length
  · refine .inr ⟨lt, ⟨xs, xs[i], q, by simp [lt]⟩, fun x H' y => ?_⟩
    obtain ⟨rfl, y⟩ := y
    exact hs i x _ (y xs q) p
  · exact .inl ⟨by omega, ⟨xs, q, by omega⟩⟩
/-- enumerate(list): each turn brings a new tuple -/
theorem w_enum {K : PySem.W.Frag} {a : Addr} {xs : List V} {B : (Hp → Prop) → V → Hp → Prop} {Qd : Hp → Prop} {H0 : Hp} (Pv : Nat → Hp → Prop) (h0 : Pv 0 H0) (hl : ∀ i H, i ≤ xs.length → Pv i H → SqL K H a xs)
    (hs : ∀ i x H T, xs[i]? = some x → Pv i H → H T = none → B (Pv (i + 1)) (.ref T) (upd H T (.tup [.int (i : Nat), x]))) (hd : ∀ H, Pv xs.length H → Qd H) :
    ∃ W : Nat → Nat → Hp → Prop, (∃ m, W 0 m H0) ∧ ∀ i m H, W i m H → ((Ite K a).stop i H ∧ Qd H) ∨ ((Ite K a).go i H ∧ ∃ Nx : Hp → Prop, (∀ H', Nx H' → ∃ m', m' < m ∧ W (i + 1) m' H') ∧ ∀ x H', (Ite K a).yld i H x H' → B Nx x H') := by
  refine w_run xs.length Pv h0 (fun i H le p => ?_) hd
  have q := hl i H le p
  by_cases lt : i < xs.length
  · refine .inr ⟨lt, ⟨xs, xs[i], q, by simp [lt]⟩, fun x H' y => ?_⟩
    obtain ⟨T, v, rfl, hT, rfl, y⟩ := y
    exact hs i v H T (y xs q) p hT
  · exact .inl ⟨by omega, ⟨xs, q, by omega⟩⟩
theorem w_range {lo : Int} {n : Nat} {B : (Hp → Prop) → V → Hp → Prop} {Qd : Hp → Prop} {H0 : Hp} (Pv : Nat → Hp → Prop) (h0 : Pv 0 H0)
    (hs : ∀ i H, i < n → Pv i H → B (Pv (i + 1)) (.int (lo + i)) H) (hd : ∀ H, Pv n H → Qd H) :
    ∃ W : Nat → Nat → Hp → Prop, (∃ m, W 0 m H0) ∧ ∀ i m H, W i m H → ((Itr lo n).stop i H ∧ Qd H) ∨ ((Itr lo n).go i H ∧ ∃ Nx : Hp → Prop, (∀ H', Nx H' → ∃ m', m' < m ∧ W (i + 1) m' H') ∧ ∀ x H', (Itr lo n).yld i H x H' → B Nx x H') := by
  refine w_run n Pv h0 (fun i H le p => ?_) hd
  by_cases lt : i < n
  · refine .inr ⟨lt, lt, fun x H' y => ?_⟩
    obtain ⟨rfl, rfl⟩ := y
    exact hs i _ lt p
  · exact .inl ⟨by omega, Nat.le_of_not_lt lt⟩
/-! a list or a tuple that stands still, walked -/
theorem same_tup {K : PySem.W.Frag} {H G : Hp} {a : Addr} {xs : List V} (s : Same H G) (h : SqT K H a xs) : SqT K G a xs := by
  rcases h with (h | ⟨o, h⟩) | h
  · exact .inl (.inl (s _ _ h))
  · exact .inl (.inr ⟨o, s _ _ h⟩)
  · exact .inr h
structure Wk (J : It) (H : Hp) (xs : List V) : Prop where
  go : ∀ G, Same H G → ∀ i, i < xs.length → J.go i G
  yl : ∀ G, Same H G → ∀ i x G', J.yld i G x G' → G' = G ∧ xs[i]? = some x
  st : ∀ G, Same H G → J.stop xs.length G
theorem wk_list {K : PySem.W.Frag} {H : Hp} {a : Addr} {xs : List V} (h : SqL K H a xs) : Wk (Itl K a) H xs where
  go := fun G s i lt => ⟨xs, xs[i], s.seq h, by simp [lt]⟩
  yl := fun G s i x G' y => ⟨y.1, y.2 xs (s.seq h)⟩
  st := fun G s => ⟨xs, s.seq h, Nat.le_refl _⟩
theorem wk_tup {K : PySem.W.Frag} {H : Hp} {a : Addr} {xs : List V} (h : SqT K H a xs) : Wk (Itt K a) H xs where
  go := fun G s i lt => ⟨xs, xs[i], same_tup s h, by simp [lt]⟩
  yl := fun G s i x G' y => ⟨y.1, y.2 xs (same_tup s h)⟩
  st := fun G s => ⟨xs, same_tup s h, Nat.le_refl _⟩
theorem seq_or {K : PySem.W.Frag} {i0 : Nat} {σ : L2.St} {H : Hp} {a : Addr} {xs : List V} {R : It → Hp → Prop} (hσ : σ[i0]? = some (some (.ref a))) (hq : SqL K H a xs ∨ SqT K H a xs) (hR : ∀ J : It, Wk J H xs → R J H) :
    iList K (tVar i0) σ H R ∨ iTup K (tVar i0) σ H R :=
  hq.elim (fun z => .inl ⟨_, hσ, a, rfl, ⟨xs, z⟩, hR _ (wk_list z)⟩) fun z => .inr ⟨_, hσ, a, rfl, ⟨xs, z⟩, hR _ (wk_tup z)⟩
theorem w_wk {J : It} {H : Hp} {xs : List V} {B : (Hp → Prop) → V → Hp → Prop} {Qd : Hp → Prop} {H0 : Hp} (wk : Wk J H xs) (Pv : Nat → Hp → Prop) (h0 : Pv 0 H0) (hl : ∀ i G, i ≤ xs.length → Pv i G → Same H G)
    (hs : ∀ i x G, xs[i]? = some x → Pv i G → B (Pv (i + 1)) x G) (hd : ∀ G, Pv xs.length G → Qd G) :
    ∃ W : Nat → Nat → Hp → Prop, (∃ m, W 0 m H0) ∧ ∀ i m H, W i m H → (J.stop i H ∧ Qd H) ∨ (J.go i H ∧ ∃ Nx : Hp → Prop, (∀ H', Nx H' → ∃ m', m' < m ∧ W (i + 1) m' H') ∧ ∀ x H', J.yld i H x H' → B Nx x H') := by
  refine w_run xs.length Pv h0 (fun i G le p => ?_) hd
  have k := hl i G le p
  by_cases lt : i < xs.length
  · refine .inr ⟨lt, wk.go G k i lt, fun x H' y => ?_⟩
    obtain ⟨rfl, e⟩ := wk.yl G k i x H' y
    exact hs i x _ e p
  · obtain rfl : i = xs.length := by omega
    exact .inl ⟨rfl, wk.st G k⟩
theorem for_wk {J : It} {H : Hp} {xs : List V} {g : TG} {tb : TS} {D : Ends} {σ : L2.St} {H1 : Hp} (wk : Wk J H xs) (Pv : Nat → L2.St → Hp → Prop) (h0 : Pv 0 σ H1) (hl : ∀ i σ G, i ≤ xs.length → Pv i σ G → Same H G)
    (hs : ∀ i x σ G, xs[i]? = some x → Pv i σ G → g x σ G fun σ2 H2 => tb { D with nx := Pv (i + 1), ct := Pv (i + 1), bk := D.nx } σ2 H2) (hd : ∀ σ G, Pv xs.length σ G → D.nx σ G) :
    ∃ W : Nat → Nat → L2.St → Hp → Prop, (∃ m, W 0 m σ H1) ∧ ∀ i m σ H, W i m σ H →
      (J.stop i H ∧ D.nx σ H) ∨ (J.go i H ∧ ∃ N : L2.St → Hp → Prop, (∀ σ' H', N σ' H' → ∃ m', m' < m ∧ W (i + 1) m' σ' H') ∧ ∀ x H', J.yld i H x H' → g x σ H' fun σ2 H2 => tb { D with nx := N, ct := N, bk := D.nx } σ2 H2) := by
  refine ⟨fun i m σ G => m = xs.length - i ∧ i ≤ xs.length ∧ Pv i σ G, ⟨_, rfl, Nat.zero_le _, h0⟩, ?_⟩
  rintro i m σ G ⟨rfl, le, p⟩
  have k := hl i σ G le p
  by_cases lt : i < xs.length
  · refine .inr ⟨wk.go G k i lt, Pv (i + 1), fun σ' H' p' => ⟨xs.length - (i + 1), by omega, rfl, lt, p'⟩, fun x H' y => ?_⟩
    obtain ⟨rfl, e⟩ := wk.yl G k i x H' y
    exact hs i x σ _ e p
  · obtain rfl : i = xs.length := by omega
    exact .inl ⟨wk.st G k, hd σ G p⟩
/-! the order of keys of one kind -/
def ltK : Key → Key → Bool
  | .inl i, .inl j => decide (i < j)
  | .inr x, .inr y => decide (x.cps.toList < y.cps.toList)
  | _, _ => false
theorem ltK_irrefl (k : Key) : ltK k k = false := by
  cases k with
  | inl i => simp [ltK]
  | inr x => simp [ltK, List.lt_irrefl]
theorem ltK_asymm {a b : Key} (h : ltK a b = true) : ltK b a = false := by
  cases a <;> cases b <;> simp only [ltK, decide_eq_true_eq, decide_eq_false_iff_not, Bool.false_eq_true] at h ⊢
  · omega
  · exact List.lt_asymm h
/-- all of one kind -/
def OneK (L : List Key) : Prop := (∀ k ∈ L, isIK k) ∨ (∀ k ∈ L, isSK k)
theorem rising_lt : ∀ {p : Str} {ys : List Str}, PyProof.Rows.risingS p ys = true → (p :: ys).Nodup → ∀ y ∈ ys, p.cps.toList < y.cps.toList
  | _, [], _, _ => fun y hy => by cases hy
  | p, x :: r, h, nd => by
    simp only [PyProof.Rows.risingS, Bool.and_eq_true, Bool.not_eq_true'] at h
    obtain ⟨h1, h2⟩ := h
    obtain ⟨n1, n2⟩ := List.nodup_cons.mp nd
    have hx : p.cps.toList < x.cps.toList := by
      have le : ¬ x.cps.toList < p.cps.toList := by
        intro z
        rw [PyProof.Rows.ltCps_eq, decide_eq_true z] at h1
        cases h1
      refine Classical.byContradiction fun z => n1 ?_
      have e : p.cps.toList = x.cps.toList := List.le_antisymm (List.not_lt.mp le) (List.not_lt.mp z)
      have e2 : p = x := by
        obtain ⟨⟨a⟩⟩ := p
        obtain ⟨⟨b⟩⟩ := x
        cases e
        rfl
      rw [e2]
      exact List.mem_cons_self
    intro y hy
    rcases List.mem_cons.mp hy with rfl | hy
    · exact hx
    · exact List.lt_trans hx (rising_lt h2 n2 y hy)
theorem rising_pw : ∀ {p : Str} {ys : List Str}, PyProof.Rows.risingS p ys = true → (p :: ys).Nodup → (p :: ys).Pairwise fun a b => a.cps.toList < b.cps.toList
  | p, [], _, _ => by simp
  | p, x :: r, h, nd => by
    have h2 := h
    simp only [PyProof.Rows.risingS, Bool.and_eq_true] at h2
    exact List.pairwise_cons.mpr ⟨rising_lt h nd, rising_pw h2.2 (List.nodup_cons.mp nd).2⟩
theorem sortedS_pw {ys : List Str} (h : PyProof.Rows.sortedS ys = true) (nd : ys.Nodup) : ys.Pairwise fun a b => a.cps.toList < b.cps.toList := by
  cases ys with
  | nil => exact List.Pairwise.nil
  | cons p r => exact rising_pw h nd
/-- sorted(a set of one kind) -/
def rSortK (P : Program) (w : World) : List V → Hp → VK → Prop := fun vs H Q => ∃ (a : Addr) (L : List Key), vs = [.ref a] ∧ H a = some (SetMO P w a L) ∧ L.length < 64 ∧ OneK L ∧
  ∀ (zs : List Key) (p : Addr), zs.Pairwise (fun a b => ltK a b = true) → (∀ k, k ∈ zs ↔ k ∈ L) → zs.length = L.length → H p = none → Q (.ref p) (upd H p (.lst (zs.map kV)))
theorem cr_sortK {X : Cx} (hc : X.calm = true) : CallR X (.builtin "sorted") (rSortK X.prog X.w) := by
  intro pins s σ H xs us Q I r h
  obtain ⟨a, L, rfl, ha, few, one, q⟩ := h
  rcases one with one | one
  · refine cr_sortM hc pins s σ H _ us Q I r ⟨a, L, rfl, ha, few, one, fun ns p pw mem len hp => ?_⟩
    have z := q (ns.map Sum.inl) p (List.pairwise_map.mpr (pw.imp fun {a b} l => decide_eq_true l)) (fun k => ?_) (by rw [List.length_map, len]) hp
    · rw [List.map_map] at z
      exact z
    · cases k with
      | inl i => rw [mem_map_inl, mem]
      | inr x => exact ⟨fun m => by simp at m, fun m => by obtain ⟨i, e⟩ := one _ m; cases e⟩
  · refine cr_sortMS hc pins s σ H _ us Q I r ⟨a, L, rfl, ha, few, one, fun ns p st nd mem len hp => ?_⟩
    have z := q (ns.map Sum.inr) p (List.pairwise_map.mpr ((sortedS_pw st nd).imp fun {a b} l => decide_eq_true l)) (fun k => ?_) (by rw [List.length_map, len]) hp
    · rw [List.map_map] at z
      exact z
    · cases k with
      | inr i => rw [mem_map_inr, mem]
      | inl x => exact ⟨fun m => by simp at m, fun m => by obtain ⟨i, e⟩ := one _ m; cases e⟩
/-- what stands at place j of a rising list has j ones below it -/
theorem below_len : ∀ {zs : List Key} {j : Nat} {k : Key}, zs.Pairwise (fun a b => ltK a b = true) → zs[j]? = some k → (zs.filter fun x => ltK x k).length = j
  | [], j, k, _, h => by simp at h
  | z :: zs, 0, k, pw, h => by
    have e : z = k := by simpa using h
    subst e
    obtain ⟨h1, _⟩ := List.pairwise_cons.mp pw
    rw [List.filter_cons, ltK_irrefl]
    simp only [Bool.false_eq_true, if_false]
    rw [List.filter_eq_nil_iff.mpr fun x hx => by rw [ltK_asymm (h1 x hx)]; simp]
    rfl
  | z :: zs, j + 1, k, pw, h => by
    obtain ⟨h1, h2⟩ := List.pairwise_cons.mp pw
    have hk : zs[j]? = some k := by simpa using h
    rw [List.filter_cons, h1 k (List.mem_of_getElem? hk)]
    simp only [if_true, List.length_cons]
    rw [below_len h2 hk]
/-- the number of the different ones below -/
def rankK (ks : List Key) (k : Key) : Nat := (sof (ks.filter fun x => ltK x k)).length
theorem rank_at {ks zs : List Key} {j : Nat} {k : Key} (pw : zs.Pairwise fun a b => ltK a b = true) (mem : ∀ k, k ∈ zs ↔ k ∈ ks) (h : zs[j]? = some k) : rankK ks k = j := by
  rw [← below_len pw h]
  have nz : zs.Nodup := pw.imp fun {a b} l e => by rw [e, ltK_irrefl] at l; cases l
  refine (List.perm_ext_iff_of_nodup (nd_sof _) (nz.filter _)).mpr (fun x => ?_) |>.length_eq
  rw [mem_sof, List.mem_filter, List.mem_filter, mem]
end PSG

set_option Elab.async false
set_option linter.all false
set_option maxRecDepth 100000
set_option maxHeartbeats 8000000
/-! f(c = x, b = y, a = z): keywords alone, in another sequence than the parameters -/
namespace PSG
open PySem PySem.Spec L2
section
variable {X : Cx} {CT : CXT} {k : Nat} {f : Addr} {fd : FuncData} {ps ks : List Str} {sp : Sp} {E : L2.St → XK} {x : Str} {p pos : Pos} {kws : List Keyword} {t : TA}
def tCallG (sp : Sp) (gV : List V → List V) (E : L2.St → XK) (t : TA) : TE := fun σ H Q => t σ H fun vs H1 => sp (gV vs) H1 Q (E σ)
theorem pe_callR {g : List Value → List Value} {gV : List V → List V} (F : FnOk X.prog X.w X.K X.mg X.base CT k f fd ps sp) (room : Room k X.A) (hg : Gl X x) (hm : X.mg x = some (.ref f)) (keep : PySem.W.keepIn X.K (.ref f) = true)
    (bi : ∀ (s : Shared) (ws : List Value), X.K.In s.heap → (g ws).length = ps.length → BindsTo s fd ⟨[], ks.zip ws⟩ (ps.zip (g ws))) (rel : ∀ {vs : List V} {ws : List Value}, Vals vs ws → Vals (gV vs) (g ws)) (pass : ∀ σ, PassesAt CT X σ (E σ))
    (ha : PK X kws t) (hall : (backToKw pos (keywordEach kws X.env)).all (·.1.isSome) = true := by rfl) (hks : (backToKw pos (keywordEach kws X.env)).filterMap (·.1) = ks := by rfl)
    (nd : (x == ("__debug__" : Str)) = false := by decide) (sn : ((backTo pos (starEach [] X.env)).any (·.1) || (backToKw pos (keywordEach kws X.env)).any (·.1.isNone)) = false := by rfl) :
    PE X (.Call (.Name x p) [] kws pos) (tCallG sp gV E t) where
  run := fun pins s σ H Q I h => by
    refine wpAny_Call_Name_kw (ld_glob I hg hm ?_ nd)
    refine PySem.W.callWith_KW0 (h₀ := X.base) I.ok.mod.kin keep hall (thn (ha.run pos pins s σ H _ I h) fun ws s1 ⟨vs, H1, I1, r1, q1⟩ => ⟨I1.kIn, ?_⟩) sn
    rw [hks]
    show wpAny _ _ (call (.ref f) [] (ks.zip ws)) _ _ _
    have r2 := rel r1
    have lw : (g ws).length = ps.length := r2.length.symm.trans (F.len _ _ _ _ q1)
    refine wpAny_call (codeAny_mono (F.run X.A X.stack s1 H1 ⟨[], ks.zip ws⟩ (g ws) (gV vs) Q (E σ) room I1.env0 (bi s1 ws I1.kIn lw) r2 q1) fun r s' z => ?_)
    match r, z with
    | .error er, z => exact pass σ pins H1 s1 er s' I1 z
    | .ok (.ret u), z => exact I1.after z
end
theorem for_enum {K : PySem.W.Frag} {a : Addr} {xs : List V} {g : TG} {tb : TS} {D : Ends} {σ : L2.St} {H : Hp} (Pv : Nat → L2.St → Hp → Prop) (h0 : Pv 0 σ H) (hl : ∀ i σ H, Pv i σ H → SqL K H a xs)
    (hs : ∀ i x σ H T, xs[i]? = some x → Pv i σ H → H T = none → g (.ref T) σ (upd H T (.tup [.int (i : Nat), x])) fun σ2 H2 => tb { D with nx := Pv (i + 1), ct := Pv (i + 1), bk := D.nx } σ2 H2) (hd : ∀ σ H, Pv xs.length σ H → D.nx σ H) :
    ∃ W : Nat → Nat → L2.St → Hp → Prop, (∃ m, W 0 m σ H) ∧ ∀ i m σ H, W i m σ H →
      ((Ite K a).stop i H ∧ D.nx σ H) ∨ ((Ite K a).go i H ∧ ∃ N : L2.St → Hp → Prop, (∀ σ' H', N σ' H' → ∃ m', m' < m ∧ W (i + 1) m' σ' H') ∧ ∀ x H', (Ite K a).yld i H x H' → g x σ H' fun σ2 H2 => tb { D with nx := N, ct := N, bk := D.nx } σ2 H2) := by
  refine ⟨fun i m σ H => m = xs.length - i ∧ i ≤ xs.length ∧ Pv i σ H, ⟨xs.length, by simp, Nat.zero_le _, h0⟩, fun i m σ H hw => ?_⟩
  obtain ⟨hm, hi, p⟩ := hw
  have sq := hl i σ H p
  by_cases lt : i < xs.length
  · refine .inr ⟨⟨xs, xs[i], sq, List.getElem?_eq_getElem lt⟩, Pv (i + 1), fun σ' H' q => ⟨m - 1, by omega, by omega, by omega, q⟩, fun v H' y => ?_⟩
    obtain ⟨T, x, rfl, hT, rfl, at_⟩ := y
    exact hs i x σ H T (at_ xs sq) p hT
  · have e : i = xs.length := by omega
    refine .inl ⟨⟨xs, sq, by omega⟩, hd σ H ?_⟩
    rw [← e]
    exact p
theorem pass0At {X : Cx} : ∀ σ : L2.St, PassesAt CX0 X σ ((fun _ => E0) σ) := fun _ _ _ _ _ _ _ h => h.elim
/-- three, the other way round -/
def flip3 {α : Type} : List α → List α
  | [a, b, c] => [c, b, a]
  | _ => []
theorem flip3_rel {vs : List V} {ws : List Value} (r : Vals vs ws) : Vals (flip3 vs) (flip3 ws) := by
  match vs, ws, r with
  | [], [], .nil => exact .nil
  | [_], [_], _ => exact .nil
  | [_, _], [_, _], _ => exact .nil
  | [_, _, _], [_, _, _], .cons r1 (.cons r2 (.cons r3 .nil)) => exact .cons r3 (.cons r2 (.cons r1 .nil))
  | _ :: _ :: _ :: _ :: _, _ :: _ :: _ :: _ :: _, _ => exact .nil
end PSG

set_option Elab.async false
set_option linter.all false
/-! sequences that rise strictly: one element put in, buckets, and that there is one such sequence alone -/
namespace PSO
variable {α : Type}
theorem pw_one {T : α → α → Prop} (asym : ∀ a b, T a b → ¬ T b a) : ∀ {L M : List α}, L.Perm M → L.Pairwise T → M.Pairwise T → L = M
  | [], M, p, _, _ => by
    have := p.length_eq
    cases M with
    | nil => rfl
    | cons y r => simp at this
  | x :: L, [], p, _, _ => by
    have := p.length_eq
    simp at this
  | x :: L, y :: M, p, hl, hm => by
    obtain ⟨l1, l2⟩ := List.pairwise_cons.mp hl
    obtain ⟨m1, m2⟩ := List.pairwise_cons.mp hm
    have e : x = y := by
      refine Classical.byContradiction fun n => ?_
      have hx : x ∈ M := (List.mem_cons.mp (p.mem_iff.mp List.mem_cons_self)).resolve_left n
      have hy : y ∈ L := (List.mem_cons.mp (p.mem_iff.mpr List.mem_cons_self)).resolve_left fun e => n e.symm
      exact asym _ _ (l1 y hy) (m1 x hx)
    subst e
    rw [pw_one asym (List.Perm.cons_inv p) l2 m2]
/-- x put at its place -/
theorem pw_put {T : α → α → Prop} (tr : ∀ a b c, T a b → T b c → T a c) {L : List α} {p : Nat} {x : α} (pw : L.Pairwise T) (lo : p = 0 ∨ ∃ y, L[p - 1]? = some y ∧ T y x) (hi : ∀ i y, p ≤ i → L[i]? = some y → T x y) :
    (L.take p ++ x :: L.drop p).Pairwise T := by
  have up : ∀ y ∈ L.drop p, T x y := fun y hy => by
    obtain ⟨i, hi'⟩ := List.mem_iff_getElem?.mp hy
    rw [List.getElem?_drop] at hi'
    exact hi _ _ (Nat.le_add_right _ _) hi'
  have down : ∀ y ∈ L.take p, T y x := fun y hy => by
    obtain ⟨i, hi'⟩ := List.mem_iff_getElem?.mp hy
    rw [List.getElem?_take] at hi'
    split at hi'
    · next lt =>
      rcases lo with rfl | ⟨z, hz, tz⟩
      · omega
      · by_cases e : i = p - 1
        · rw [e, hz] at hi'
          cases hi'
          exact tz
        · obtain ⟨l1, e1⟩ := List.getElem?_eq_some_iff.mp hi'
          obtain ⟨l2, e2⟩ := List.getElem?_eq_some_iff.mp hz
          have q := List.pairwise_iff_getElem.mp pw i (p - 1) l1 l2 (by omega)
          rw [e1, e2] at q
          exact tr _ _ _ q tz
    · cases hi'
  have both := List.pairwise_append.mp (by rw [List.take_append_drop]; exact pw : (L.take p ++ L.drop p).Pairwise T)
  refine List.pairwise_append.mpr ⟨both.1, List.pairwise_cons.mpr ⟨up, both.2.1⟩, fun a ha b hb => ?_⟩
  rcases List.mem_cons.mp hb with rfl | hb
  · exact down a ha
  · exact both.2.2 a ha b hb
theorem perm_put {L : List α} {p : Nat} {x : α} : (L.take p ++ x :: L.drop p).Perm (x :: L) := by
  refine (List.perm_middle).trans ?_
  rw [List.take_append_drop]
/-- by values one behind another, each bucket in the sequence as it was -/
def buckets {β : Type} [DecidableEq β] (key : α → β) (vs : List β) (L : List α) : List α := vs.flatMap fun v => L.filter fun x => decide (key x = v)
theorem mem_buckets {β : Type} [DecidableEq β] {key : α → β} {vs : List β} {L : List α} {x : α} : x ∈ buckets key vs L ↔ x ∈ L ∧ key x ∈ vs := by
  unfold buckets
  rw [List.mem_flatMap]
  constructor
  · rintro ⟨v, hv, hx⟩
    obtain ⟨h1, h2⟩ := List.mem_filter.mp hx
    exact ⟨h1, by rw [of_decide_eq_true h2]; exact hv⟩
  · rintro ⟨h1, h2⟩
    exact ⟨_, h2, List.mem_filter.mpr ⟨h1, decide_eq_true rfl⟩⟩
theorem pw_buckets {β : Type} [DecidableEq β] {key : α → β} {R : β → β → Prop} {T : α → α → Prop} {L : List α} (pw : L.Pairwise T) : ∀ {vs : List β}, vs.Pairwise R → (buckets key vs L).Pairwise fun a b => R (key a) (key b) ∨ (key a = key b ∧ T a b)
  | [], _ => List.Pairwise.nil
  | v :: vs, h => by
    obtain ⟨h1, h2⟩ := List.pairwise_cons.mp h
    have e : buckets key (v :: vs) L = (L.filter fun x => decide (key x = v)) ++ buckets key vs L := rfl
    rw [e]
    refine List.pairwise_append.mpr ⟨?_, pw_buckets pw h2, fun a ha b hb => ?_⟩
    · have q := pw.filter (fun x => decide (key x = v))
      refine List.Pairwise.imp_of_mem (fun {a b} ha hb t => .inr ⟨?_, t⟩) q
      rw [of_decide_eq_true (List.mem_filter.mp ha).2, of_decide_eq_true (List.mem_filter.mp hb).2]
    · left
      rw [of_decide_eq_true (List.mem_filter.mp ha).2]
      exact h1 _ (mem_buckets.mp hb).2
theorem nodup_of_pw {T : α → α → Prop} (irr : ∀ a, ¬ T a a) {L : List α} (pw : L.Pairwise T) : L.Nodup := List.Pairwise.imp (S := fun a b => a ≠ b) (fun {a b} t (e : a = b) => irr a (by
  rw [← e] at t
  exact t)) pw
/-- the same elements, each once: a rearrangement -/
theorem perm_of_mem {L M : List α} (hl : L.Nodup) (hm : M.Nodup) (h : ∀ x, x ∈ L ↔ x ∈ M) : L.Perm M := (List.perm_ext_iff_of_nodup hl hm).mpr h
end PSO

set_option Elab.async false
set_option linter.all false
set_option maxRecDepth 100000
set_option maxHeartbeats 8000000
namespace PSE
open PySem PySem.Spec L2 PSG
theorem called_any {M : Model} {A : Around} {E : Value → Shared → Prop} {s : Shared} {c : Value} {Q : Bool → Shared → Prop} (h : ∀ b, Q b s) : wpAny M A (Builtin.SmallTypes.calledThroughType c) Q E s := by
  unfold Builtin.SmallTypes.calledThroughType
  exact wpAny_bind (wpAny_stack_any fun st => wpAny_pure (h _))
/-- the walker of a tuple, and the heap with it and the enumerate that holds it -/
abbrev twO (a : Addr) : Obj := { cls := .type "tuple_iterator", data := .fields #[.ref a, .int 0 0] }
abbrev enO (h : Heap) : Obj := { cls := .type "enumerate", data := .fields #[.none, .bool false, .ref h.objs.size, rawInt 0, .none, .none] }
theorem new_enum_tuple (a : Addr) (items : Array Value) (n : Nat) (dct : Option Addr) (sl : Array (Option Value)) :
    Meets (Builtin.«enumerate.__new__» { pos := [.type "enumerate", .ref a] }) fun _ R s => s.heap.get? a = some { cls := .type "tuple", dict := dct, data := .seq items n, slots := sl } ∧
      R (.ok (.ret (.ref (s.heap.push (twO a)).objs.size))) { s with heap := (s.heap.push (twO a)).push (enO s.heap) } := by
  refine Meets.of_wp fun prog w A R s h => ?_
  obtain ⟨hp, g, d, tk, os⟩ := s
  obtain ⟨hl, hR⟩ := h
  have hT : hp.IsTuple a items := ⟨_, hl, rfl, n, rfl⟩
  have hsub := sub_enumerate
  unfold Builtin.«enumerate.__new__»
  refine wpAny_bind (wpAny_bind (wpAny_pure (wpAny_ite_false rfl (wpAny_bind (wpAny_of_eq hsub (wpAny_ite_false rfl (wpAny_pure (wpAny_ite_true rfl (wpAny_bind (called_any fun short => ?_))))))))))
  have made : ∀ {Q : Value → Shared → Prop} {E : Value → Shared → Prop}, Q (.ref (hp.push (twO a)).objs.size) ⟨(hp.push (twO a)).push (enO hp), g, d, tk, os⟩ →
      wpAny (model prog w) A.in1 (Builtin.SmallTypes.newRecord (.type "enumerate") (Builtin.SmallTypes.ownedTupleFields ++ [.ref hp.objs.size, rawInt 0, .none, .none])) Q E ⟨hp.push (twO a), g, d, tk, os⟩ := fun q => by
    unfold Builtin.SmallTypes.newRecord
    exact wpAny_newObj_type q (by first | rfl | (show _ ≤ sizeLine + 2; decide) | (show sizeOk (.fields #[_, _, _, _, _, _]); exact (by decide : 6 ≤ sizeLine + 2)))
  cases short
  · exact wpAny_ite_false rfl (wpAny_bind (wpAny_of_eq (a := (Value.ref a, none)) rfl (wpAny_bind (wpAny_pyIter_tuple hT (wpAny_bind (made (wpAny_pure ⟨_, rfl, hR⟩)))))))
  · exact wpAny_ite_true rfl (wpAny_bind (wpAny_pure (wpAny_bind (wpAny_pyIter_tuple hT (wpAny_bind (made (wpAny_pure ⟨_, rfl, hR⟩)))))))
section
variable {prog : Program} {w : World} {A : Around} {E : Value → Shared → Prop} {s : Shared}
theorem call_enum_tuple {a : Addr} {items : Array Value} {Q : Value → Shared → Prop} (hT : s.heap.IsTuple a items)
    (h : ∀ h', IsEnum h' (s.heap.objs.size + 1) s.heap.objs.size 0 .none → h'.IsTupleIter s.heap.objs.size a 0 → (∀ b o, s.heap.get? b = some o → h'.get? b = some o) → Q (.ref (s.heap.objs.size + 1)) { s with heap := h' }) :
    wpAny (model prog w) A (call (.type "enumerate") [.ref a]) Q E s := by
  obtain ⟨⟨c, dct, dt, sl⟩, hl, hc, n, hd⟩ := hT
  cases hc
  cases hd
  refine callType_new F.called_enumerate (by decide) (F.typeCall_enumerate_1 _) (F.newCall_enumerate_1 _) (fun obj => F.args_object_init_2 obj _) F.entry_enumerate_new (new_enum_tuple a items n dct sl) ⟨hl, ?_⟩
  have sz : (s.heap.push (twO a)).objs.size = s.heap.objs.size + 1 := Heap.size_push ..
  have old : ∀ b o, s.heap.get? b = some o → ((s.heap.push (twO a)).push (enO s.heap)).get? b = some o := fun b o x => Heap.get?_push_of_some _ (Heap.get?_push_of_some _ x)
  have he : IsEnum ((s.heap.push (twO a)).push (enO s.heap)) (s.heap.objs.size + 1) s.heap.objs.size 0 .none := sz ▸ Heap.get?_push_size (s.heap.push (twO a)) (o := enO s.heap) rfl
  have hi : ((s.heap.push (twO a)).push (enO s.heap)).IsTupleIter s.heap.objs.size a 0 := ⟨_, Heap.get?_push_of_some _ (Heap.get?_push_size _ rfl), rfl, rfl⟩
  show _ ∧ _
  rw [sz]
  exact ⟨⟨_, he, rfl⟩, h _ he hi old⟩
end
/-- the tuple at a, its items in new pairs with their places -/
def IteT (K : PySem.W.Frag) (a : Addr) : It where
  go := fun i H => ∃ xs x, SqT K H a xs ∧ xs[i]? = some x
  yld := fun i H v H' => ∃ T x, v = .ref T ∧ H T = none ∧ H' = upd H T (.tup [.int (i : Nat), x]) ∧ ∀ xs, SqT K H a xs → xs[i]? = some x
  stop := fun i H => ∃ xs, SqT K H a xs ∧ xs.length = i
theorem turn_enumT {P : Program} {w : World} {K : PySem.W.Frag} {elts : List Expr} {kk : Nat} {tpos : Pos} (a e it : Addr) :
    Turn P w K (.Tuple elts kk tpos) (IteT K a) [e, it] e fun i h => (∃ old, IsEnum h e it ((i : Nat) : Int) old) ∧ h.IsTupleIter it a i ∧ e ≠ it := by
  have two : ∀ b, b ∈ [e, it] ↔ b = e ∨ b = it := fun b => by simp
  have apart : ∀ {h : Heap} {its : Array Value} {old : Value} {c : Int} {i : Nat}, IsEnum h e it c old → h.IsTupleIter it a i → h.IsTuple a its → a ≠ e ∧ a ≠ it := fun he hi ht => by
    obtain ⟨o, ho, hc, _⟩ := ht
    obtain ⟨o2, ho2, hc2, _⟩ := hi
    refine ⟨fun z => ?_, fun z => ?_⟩
    · rw [z, he] at ho
      cases ho
      exact absurd (Value.type.inj hc) (by decide)
    · rw [z, ho2] at ho
      cases ho
      exact absurd (Value.type.inj (hc2.symm.trans hc)) (by decide)
  refine ⟨by simp, ?_, ?_, ?_, ?_, ?_⟩
  · rintro i h ⟨⟨old, he⟩, ⟨o, ho, hc, hd⟩, _⟩ b hb
    rcases (two b).mp hb with rfl | rfl
    · exact ⟨_, he, fun v q => nomatch q⟩
    · exact ⟨o, ho, fun v q => nomatch hd.symm.trans q⟩
  · rintro i h h' ⟨⟨old, he⟩, hi, ne⟩ k
    exact ⟨⟨old, k e (by simp) _ he⟩, hi.at fun o q => k it (by simp) o q, ne⟩
  · rintro X rfl rfl rfl hc i pins s σ H E I hf ⟨⟨old, he⟩, hi, ne⟩ ⟨xs, x, hq, hx⟩
    obtain ⟨its, rv, p, hz⟩ := I.tuple hq
    have ht : s.heap.IsTuple a its.toArray := p
    obtain ⟨u, hu, ru⟩ := rv.get hx
    obtain ⟨ae, ai⟩ := apart he hi ht
    have lt : i < its.toArray.size := by
      have := (List.getElem?_eq_some_iff.mp hu).1
      simpa using this
    have le : e < s.heap.objs.size := Heap.lt_size he
    have li : it < s.heap.objs.size := by
      obtain ⟨o, ho, _⟩ := hi
      exact Heap.lt_size ho
    refine wpAny_pyNext_enum_itemD (Draws.tuple (prog := X.prog) (w := X.w) (A := X.A.in1) (I.ok.hd hc) it a ai its.toArray) he ⟨hi, ht⟩ lt ne (by simp [ne, Ne.symm ae]) fun y h' tk hy ho st' hT hsz hk => ?_
    have ey : y = u := by
      have e1 : its.toArray[i]? = some u := by simpa using hu
      rw [e1] at hy
      exact (Option.some.inj hy).symm
    subst ey
    refine ⟨_, rfl, wpAny_letOwnedTupleGo_enum (s := { s with heap := h', toks := tk + 1 }) ho fun h2 he2 sb => ?_⟩
    have hT2 := (sb.2 _ (Nat.ne_of_gt le)).trans hT
    have I1 : Inv X pins σ (upd H s.heap.objs.size (.tup [.int (i : Nat), x])) { s with heap := h2, toks := tk + 1 } :=
      I.turnedNew (ch := [e, it]) (fun b ob hb q => (sb.2 b fun z => hb ((two b).mpr (.inl z))).trans (hk b ob (fun z => hb ((two b).mpr (.inl z))) (fun z => hb ((two b).mpr (.inr z))) q)) hf (Nat.le_refl _)
        ⟨by show 2 ≤ sizeLine; decide, [.int i tk, y], .cons ⟨_, rfl⟩ (.cons ru .nil), ⟨_, hT2, rfl, _, rfl⟩⟩
    refine ⟨.ref s.heap.objs.size, _, I1, rfl, ⟨_, x, rfl, I.hok.fresh (Nat.le_refl _), rfl, fun ys hy => by rw [I.tuple_inj hy hq]; exact hx⟩, ⟨⟨y, ?_⟩, st'.1.at fun o q => (sb.2 it (Ne.symm ne)).trans q, ne⟩, fun b hb => ?_⟩
    · rw [Int.natCast_add]
      exact he2
    · have lb : b < s.heap.objs.size := by
        rcases (two b).mp hb with rfl | rfl
        · exact le
        · exact li
      rw [upd_ne (Nat.ne_of_lt lb)]
      exact (hf b hb).1
  · rintro X rfl rfl rfl hc i pins s σ H E I hf ⟨⟨old, he⟩, hi, ne⟩ ⟨xs, hq, hx⟩
    obtain ⟨its, rv, p, hz⟩ := I.tuple hq
    have ht : s.heap.IsTuple a its.toArray := p
    obtain ⟨ae, ai⟩ := apart he hi ht
    have hl := rv.length
    have sz : its.toArray.size = i := by simp; omega
    obtain ⟨f0, f1, f2, f3, f4, f5⟩ := hf it (by simp)
    exact wpAny_pyNext_enum_endD (Draws.tuple (prog := X.prog) (w := X.w) (A := X.A.in1) (I.ok.hd hc) it a ai its.toArray) he (by rw [sz]; exact ⟨hi, ht⟩) fun h' eb => ⟨rfl, I.turned (t' := s.toks) (fun b o hb q => eb b o hb q) f0 f1 f3 f4 f5⟩
  · rintro A i s Q E ⟨⟨old, he⟩, _⟩ h
    exact wpAny_pyIter_enum he h
def iEnumT (K : PySem.W.Frag) (ta : TA) : TI := fun σ H R => ta σ H fun vs H1 => ∃ a xs, vs = [.ref a] ∧ SqT K H1 a xs ∧ R (IteT K a) H1
open PyProof.Rows in
theorem pi_enumT {X : Cx} {e : Expr} {ta : TA} {p pos tpos : Pos} {elts : List Expr} {kk : Nat} (hg : Gl X "enumerate") (hm : X.mg "enumerate" = none) (ha : PA X [e] ta) (hs : starEach [e] X.env = [(false, eval e X.env)] := by rfl) :
    PI X (.Tuple elts kk tpos) (.Call (.Name "enumerate" p) [e] [] pos) (iEnumT X.K ta) := by
  refine ⟨fun pins s σ H R I h => Call_ (ld_blt I hg hm boot_enumerate (callWith_type1 (thn (ha.run pos pins s σ H _ I h) fun us s1 z => ?_) hs rfl))⟩
  obtain ⟨_, H1, I1, rv, a, xs, rfl, hq, q⟩ := z
  obtain _ | ⟨r, rr⟩ := rv
  cases rr
  cases r
  obtain ⟨its, _, p', _⟩ := I1.tuple hq
  refine call_enum_tuple (show s1.heap.IsTuple a its.toArray from p') fun h' he hi old => wpAny_pyIter_enum he ?_
  refine ⟨s1.heap.objs.size + 1, [s1.heap.objs.size + 1, s1.heap.objs.size], _, _, H1, rfl, I1.kept (t' := s1.toks) old, turn_enumT a _ _, ⟨⟨.none, he⟩, hi, Nat.succ_ne_self _⟩, fun b hb => ?_, q⟩
  have le : s1.heap.objs.size ≤ b := by
    have hb' : b = s1.heap.objs.size + 1 ∨ b = s1.heap.objs.size := by simpa using hb
    rcases hb' with z | z
    · rw [z]
      exact Nat.le_add_right _ _
    · rw [z]
      exact Nat.le_refl _
  exact I1.fpOk le (I1.hok.fresh le)
theorem for_enumT {K : PySem.W.Frag} {a : Addr} {xs : List V} {g : TG} {tb : TS} {D : Ends} {σ : L2.St} {H : Hp} (Pv : Nat → L2.St → Hp → Prop) (h0 : Pv 0 σ H) (hl : ∀ i σ H, Pv i σ H → SqT K H a xs)
    (hs : ∀ i x σ H T, xs[i]? = some x → Pv i σ H → H T = none → g (.ref T) σ (upd H T (.tup [.int (i : Nat), x])) fun σ2 H2 => tb { D with nx := Pv (i + 1), ct := Pv (i + 1), bk := D.nx } σ2 H2) (hd : ∀ σ H, Pv xs.length σ H → D.nx σ H) :
    ∃ W : Nat → Nat → L2.St → Hp → Prop, (∃ m, W 0 m σ H) ∧ ∀ i m σ H, W i m σ H →
      ((IteT K a).stop i H ∧ D.nx σ H) ∨ ((IteT K a).go i H ∧ ∃ N : L2.St → Hp → Prop, (∀ σ' H', N σ' H' → ∃ m', m' < m ∧ W (i + 1) m' σ' H') ∧ ∀ x H', (IteT K a).yld i H x H' → g x σ H' fun σ2 H2 => tb { D with nx := N, ct := N, bk := D.nx } σ2 H2) := by
  refine ⟨fun i m σ H => m = xs.length - i ∧ i ≤ xs.length ∧ Pv i σ H, ⟨_, rfl, Nat.zero_le _, h0⟩, ?_⟩
  rintro i m σ H ⟨rfl, le, p⟩
  have sq := hl i σ H p
  by_cases lt : i < xs.length
  · refine .inr ⟨⟨xs, xs[i], sq, List.getElem?_eq_getElem lt⟩, Pv (i + 1), fun σ' H' p' => ⟨_, by omega, rfl, lt, p'⟩, fun v H' y => ?_⟩
    obtain ⟨T, x, rfl, hT, rfl, all⟩ := y
    exact hs i x σ H T (all xs sq) p hT
  · have e : i = xs.length := by omega
    subst e
    exact .inl ⟨⟨xs, sq, rfl⟩, hd σ H p⟩
end PSE

set_option Elab.async false
set_option linter.all false
set_option maxRecDepth 100000
set_option maxHeartbeats 4000000
/-! list(reversed(a list)) -/
namespace PSV
open PySem PySem.Spec PyProof.Rows L2 RT
section
variable {prog : Program} {w : World} {A : Around} {E : Value → Shared → Prop} {s : Shared}
theorem hint_lriF {it l : Addr} {i : Int} {Q : Bool → Shared → Prop} (hit : s.heap.IsRevIter it l i) (h : Q false s) : wpAny (model prog w) A (Builtin.List.listLengthHint (.ref it)) Q E s := by
  have hT : s.TypeIs (.ref it) "list_reverseiterator" := hit.typeIs
  unfold Builtin.List.listLengthHint
  refine wpAny_bind (wpAny_specialOf hT nolen_lri ?_)
  show wpAny _ A (specialOf (Value.ref it) (Str.ofString "__length_hint__") >>= _) _ _ _
  refine wpAny_bind (wpAny_specialOf hT hint_lri ?_)
  generalize hid : ("list_reverseiterator.__length_hint__" : String) = id0
  wp_delta
  rw [show splitId id0 = some ("list_reverseiterator", "__length_hint__") from by subst hid; decide +kernel]
  subst hid
  refine wpAny_bind (wpAny_isInstance (b := true) hT (by rw [isSubtype_type]; kernel_rfl) ?_)
  exact wpAny_pure h
theorem ext_rev {R : Result → Shared → Prop} {it l : Addr} {items : Array Value} (hh : A.handled = none) (hit : s.heap.IsRevIter it l ((items.size : Int) - 1)) (hl : s.heap.IsList l items) (hne : l ≠ it) (hn : items.size ≤ sizeLine) (S : Addr) (hSi : S ≠ it) (hSl : S ≠ l) (res : Value) (c₀ : Nat) (hS : s.heap.get? S = some { cls := .type "list", data := .seq #[] c₀ })
    (hR : ∀ h' tk acc' c', (∀ b o, b ≠ S → b ≠ it → s.heap.get? b = some o → h'.get? b = some o) → h'.get? S = some { cls := .type "list", dict := none, data := .seq acc' c', slots := #[] } → ItemsOf (fun i v => items[items.size - 1 - i]? = some v) acc' items.size → R (.ok (.ret res)) { s with heap := h', toks := tk }) :
    wpAny (model prog w) A.in1 (Builtin.List.listExtendWith (.ref S) (.ref it) res)
      (fun fin s' => match fin with | .done f => R (.ok f) s' | .again c' => c'.quiet = true ∧ codeAny (model prog w) A c' R s') (fun e s' => R (.error e) s') s := by
  have W := (Walks.listRev (prog := prog) (w := w) (A := A.in1) hh it l hne items).toS
  have hSf : S ∉ [it, l] := by simp only [List.mem_cons, List.not_mem_nil, or_false, not_or]; exact ⟨hSi, hSl⟩
  have hT : s.TypeIs (.ref it) "list_reverseiterator" := hit.typeIs
  have h1 : Builtin.List.listSameRef (.ref S) (.ref it) = false := by simp [Builtin.List.listSameRef, hSi]
  unfold Builtin.List.listExtendWith
  refine wpAny_bind (wpAny_typeOf hT ?_)
  rw [if_neg (by rw [h1]; decide)]
  refine wpAny_bind (wpAny_pyIter_revIter hit ?_)
  refine wpAny_bind (wpAny_holding (hint_lriF hit ?_))
  rw [if_neg (by decide)]
  have e0 : ((items.size : Nat) : Int) - 1 - ((0 : Nat) : Int) = (items.size : Int) - 1 := by omega
  refine wpAny_pure ⟨plainId_quiet PySem.F.plain_extend_loop _, codeAny_extend_loopS W hn _ hSf _ items.size 0 _ _ _ rfl (Nat.zero_le _) ⟨Nat.zero_le _, by rw [e0]; exact hit, hl⟩ hS (ItemsOf.nil _) fun s' acc' c' hm hS' hacc => ?_⟩
  rw [Moved.eq_with hm]
  refine hR s'.heap s'.toks acc' c' (fun b o hb hb2 e => hm.heap b o (fun hmem => ?_) e) hS' hacc
  rcases List.mem_cons.mp hmem with e' | hmem
  · exact hb e'
  · exact hb2 (List.mem_singleton.mp hmem)
theorem init_rev {R : Result → Shared → Prop} {it l : Addr} {items : Array Value} (hh : A.handled = none) (hit : s.heap.IsRevIter it l ((items.size : Int) - 1)) (hl : s.heap.IsList l items) (hne : l ≠ it) (hn : items.size ≤ sizeLine) (S : Addr) (hSi : S ≠ it) (hSl : S ≠ l) (hS : s.heap.get? S = some { cls := .type "list", data := .seq #[] })
    (hR : ∀ h' tk acc' c', (∀ b o, b ≠ S → b ≠ it → s.heap.get? b = some o → h'.get? b = some o) → h'.get? S = some { cls := .type "list", dict := none, data := .seq acc' c', slots := #[] } → ItemsOf (fun i v => items[items.size - 1 - i]? = some v) acc' items.size → R (.ok (.ret .none)) { s with heap := h', toks := tk }) :
    wpAny (model prog w) A.in1 (Builtin.«list.__init__» ⟨[.ref S, .ref it], []⟩)
      (fun fin s' => match fin with | .done f => R (.ok f) s' | .again c' => c'.quiet = true ∧ codeAny (model prog w) A c' R s') (fun e s' => R (.error e) s') s := by
  show wpAny _ _ (do let old ← Builtin.List.listItems (.ref S); Builtin.List.listUpdate (.ref S) (fun _ => #[]); letGo old.toList.reverse; Builtin.List.listExtendWith (.ref S) (.ref it) .none) _ _ s
  refine wpAny_bind ?_
  unfold Builtin.List.listItems
  refine wpAny_bind (wpAny_seqItems hS rfl (wpAny_pure ?_))
  show wpAny _ _ (updateSeq S (fun _ => #[]) >>= fun _ => letGo (#[] : Array Value).toList.reverse >>= fun _ => Builtin.List.listExtendWith (.ref S) (.ref it) .none) _ _ s
  refine wpAny_bind (wpAny_updateSeq hS rfl ?_)
  have hS₂ := Heap.get?_update_self (Obj.mapSeq (fun _ => (#[] : Array Value))) hS rfl
  have oth : ∀ b o, b ≠ S → s.heap.get? b = some o → (s.heap.update S (Obj.mapSeq (fun _ => (#[] : Array Value)))).get? b = some o :=
    fun b o hb e => (Heap.get?_update_other _ _ (Ne.symm hb)).trans e
  refine wpAny_bind (wpAny_letGo ?_)
  have hl2 : (s.heap.update S (Obj.mapSeq (fun _ => (#[] : Array Value)))).IsList l items := by
    obtain ⟨o, e, r⟩ := hl
    exact ⟨o, oth _ _ hSl.symm e, r⟩
  refine ext_rev hh (hit.at fun o e => oth _ _ hSi.symm e) hl2 hne hn S hSi hSl .none _ hS₂ (fun h' tk acc' c' hk hS' hacc => ?_)
  exact hR h' tk acc' c' (fun b o hb hb2 e => hk b o hb hb2 (oth b o hb e)) hS' hacc
theorem call_list_rev {it l : Addr} {items : Array Value} {Q : Value → Shared → Prop} (hh : A.handled = none) (hit : s.heap.IsRevIter it l ((items.size : Int) - 1)) (hl : s.heap.IsList l items) (hne : l ≠ it) (hn : items.size ≤ sizeLine)
    (hQ : ∀ h' tk acc' c', (∀ b o, b ∉ [it] → s.heap.get? b = some o → h'.get? b = some o) → h'.get? s.heap.objs.size = some { cls := .type "list", dict := none, data := .seq acc' c', slots := #[] } → ItemsOf (fun i v => items[items.size - 1 - i]? = some v) acc' items.size → Q (.ref s.heap.objs.size) { s with heap := h', toks := tk }) :
    wpAny (model prog w) A (call (.type "list") [.ref it]) Q E s := by
  refine callType_codes (Q₁ := fun obj s₁ => obj = .ref s.heap.objs.size ∧ s₁ = { s with heap := s.heap.push { cls := .type "list", data := .seq #[] } }) PySem.F.called_list (PySem.F.typeCall_list_1 _) PySem.F.entry_list_init
    (code_list_new _ ⟨rfl, rfl⟩) fun obj s₁ h₁ => ?_
  obtain ⟨rfl, rfl⟩ := h₁
  have hS : (s.heap.push { cls := .type "list", data := .seq #[] }).get? s.heap.objs.size = some { cls := .type "list", data := .seq #[] } := Heap.get?_push_size _ rfl
  obtain ⟨oi, hoi, _⟩ := id hit
  obtain ⟨ol, hol, _⟩ := id hl
  refine ⟨⟨_, hS, rfl⟩, PySem.F.args_list_init_2 _ _, init_rev (A := A.in1) hh (hit.at fun o e => Heap.get?_push_of_some _ e) (hl.push _) hne hn _ (Nat.ne_of_gt (Heap.lt_size hoi)) (Nat.ne_of_gt (Heap.lt_size hol)) hS (fun h' tk acc' c' hk hS' hacc => ?_)⟩
  exact ⟨rfl, hQ h' tk acc' c' (fun b o hb e => hk b o (Nat.ne_of_lt (Heap.lt_size e)) (fun z => hb (by rw [z]; exact List.mem_singleton.mpr rfl)) (Heap.get?_push_of_some _ e)) hS' hacc⟩
end
/-- list(reversed(x)), x a list: a new list -/
def tLstRev (K : PySem.W.Frag) (te : TE) : TE := fun σ H Q => te σ H fun v H1 => ∃ (a : Addr) (xs : List V), v = .ref a ∧ SqL K H1 a xs ∧ ∀ q, H1 q = none → Q (.ref q) (upd H1 q (.lst xs.reverse))
section
variable {X : Cx}
theorem pe_lstRev {e : Expr} {te : TE} {p p2 pos pos2 : Pos} (hc : X.calm = true) (hg : Gl X "list") (hm : X.mg "list" = none) (hg2 : Gl X "reversed") (hm2 : X.mg "reversed" = none) (he : PE X e te)
    (hs : starEach [e] X.env = (false, eval e X.env) :: starEach [] X.env := by rfl)
    (hs2 : starEach [.Call (.Name "reversed" p2) [e] [] pos2] X.env = (false, eval (.Call (.Name "reversed" p2) [e] [] pos2) X.env) :: starEach [] X.env := by rfl) :
    PE X (.Call (.Name "list" p) [.Call (.Name "reversed" p2) [e] [] pos2] [] pos) (tLstRev X.K te) := by
  refine ⟨fun pins s σ H Q I h => ?_⟩
  refine Call_ (ld_blt I hg hm boot_list (PyProof.Rows.callWith_type1 (args_cons (Call_ (ld_blt I hg2 hm2 PyProof.Rows.boot_reversed (PyProof.Rows.callWith_type1 (args_cons (thn (he.run pins s σ H _ I h) fun u s1 ⟨v, H1, I1, r1, q1⟩ => args_nil ?_) hs) hs rfl))) hs2) hs2 rfl))
  obtain ⟨a, xs, ev, hq, q⟩ := q1
  subst ev
  obtain rfl : u = Value.ref a := r1
  obtain ⟨its, rv, p', hz⟩ := I1.list hq
  refine call_reversed_list p'.isList (args_nil ?_)
  have k0 : ∀ b o, s1.heap.get? b = some o → (s1.heap.push (revObj a ((its.toArray.size : Int) - 1))).get? b = some o := fun b o e => Heap.get?_push_of_some _ e
  have I2 : Inv X pins σ H1 { s1 with heap := s1.heap.push (revObj a ((its.toArray.size : Int) - 1)) } := I1.kept (t' := s1.toks) k0
  have fp := I1.fpOk (H' := H1) (b := s1.heap.objs.size) (Nat.le_refl _) (I1.hok.fresh (Nat.le_refl _))
  have hl := p'.isList
  obtain ⟨ol, hol, _⟩ := id hl
  have hne : a ≠ s1.heap.objs.size := Nat.ne_of_lt (Heap.lt_size hol)
  have hn : its.toArray.size ≤ sizeLine := by rw [List.size_toArray, ← rv.length]; exact hz
  refine call_list_rev (s := { s1 with heap := s1.heap.push (revObj a ((its.toArray.size : Int) - 1)) }) (I1.ok.hd hc) ⟨_, Heap.get?_push_size _ rfl, rfl, rfl⟩ (hl.push _) hne hn fun h' tk acc c hk hT hi => ?_
  have hsz : s1.heap.objs.size ≤ (s1.heap.push (revObj a ((its.toArray.size : Int) - 1))).objs.size := by rw [PyProof.Rows.size_push']; exact Nat.le_succ _
  have hn2 : H1 (s1.heap.push (revObj a ((its.toArray.size : Int) - 1))).objs.size = none := I1.hok.fresh hsz
  refine ⟨.ref (s1.heap.push (revObj a ((its.toArray.size : Int) - 1))).objs.size, upd H1 _ (.lst xs.reverse), I2.turnedNew (t' := tk) hk (fun b hb => ?_) (Nat.le_refl _) ⟨by rw [List.length_reverse]; exact hz, acc.toList, c, vals_rev rv hi, ?_⟩, rfl, q _ hn2⟩
  · have e : b = s1.heap.objs.size := by simpa using hb
    subst e
    exact fp
  · rw [Array.toArray_toList]
    exact hT
end
end PSV

set_option Elab.async false
set_option linter.all false
set_option maxRecDepth 100000
set_option maxHeartbeats 4000000
/-! if and for in the body of a generator -/
namespace PSW
open PySem PySem.Spec PyProof.Rows L2 GenW
open PySem.Sem (wp)
section
variable {M : Model} {A : Around} {R : GenEnd} {Y : Protocol} {n : Nat} {s₀ : Shared} {c : Code} {fs : List Frame} {s : Shared} {env : Env}
  {K : Flow → Sem PySem.Fin} {J : Value → Sem PySem.Fin} {gd : Bool → Bool} {lv : List Value → List Value}
theorem seg_if {test : Expr} {body orelse : List Stmt} {pos : Pos}
    (h : wpAny M (A.over c fs) (isTrue test env (eval test env)) (fun b s' => if b = true then Seg M A R Y n s₀ c ((execs body env).wrap K J gd lv) fs s' else Seg M A R Y n s₀ c ((execs orelse env).wrap K J gd lv) fs s')
      (fun x s' => Seg M A R Y n s₀ c (J x) fs s') s) : Seg M A R Y n s₀ c ((exec (.If test body orelse pos) env).wrap K J gd lv) fs s := by
  rw [exec_If]
  show Seg M A R Y n s₀ c (.at pos fun _ => ((isTrue test env (eval test env) >>= fun b => if b = true then execs body env else execs orelse env)).wrap K J gd lv) fs s
  refine seg_at ?_
  rw [Sem.bind_eq_wrap', Sem.wrap_wrap]
  refine seg_wrap (wpAny_mono h (fun b s' hb => ?_) fun _ _ x => x)
  cases b with
  | true => exact hb
  | false => exact hb
theorem seg_for {target iter : Expr} {body : List Stmt} {pos : Pos}
    (h : wpAny M (A.over c fs) (eval iter env) (fun x s1 => wpAny M (A.over c fs) (pyIter x) (fun it s2 => ∀ p, Seg M A R Y n s₀ (.forLoop target it body [] env) (M.den (.forLoop target it body [] env))
      (.ret (fun r => ((match r with | .ok f => (.pure f : Sem Flow) | .error e => .raise e).onRaise (cameBack env)).wrap K J gd lv) none (gd false) (lv []) c p [] :: fs) s2) (fun x s' => Seg M A R Y n s₀ c (J x) fs s') s1)
      (fun x s' => Seg M A R Y n s₀ c (J x) fs s') s)
    (hs : ∀ x, foldedSetIterable iter env x = pure x := by intro _; rfl) :
    Seg M A R Y n s₀ c ((exec (.For target iter body [] pos) env).wrap K J gd lv) fs s := by
  rw [exec_For]
  show Seg M A R Y n s₀ c (.at pos fun _ => ((eval iter env >>= fun v => foldedSetIterable iter env v >>= fun x => standAt iter.pos >>= fun _ => holding [x] (pyIter x) >>= fun it => runOwn (.forLoop target it body [] env) env)).wrap K J gd lv) fs s
  refine seg_at ?_
  rw [Sem.bind_eq_wrap', Sem.wrap_wrap]
  refine seg_wrap (wpAny_mono h (fun x s1 h1 => ?_) fun _ _ x => x)
  rw [hs x]
  show Seg M A R Y n s₀ c (.at iter.pos fun _ => (holding [x] (pyIter x) >>= fun it => runOwn (.forLoop target it body [] env) env).wrap K J gd lv) fs s1
  refine seg_at ?_
  rw [Sem.bind_eq_wrap', Sem.wrap_wrap]
  refine seg_wrap (wpAny_holding (wpAny_mono h1 (fun it s2 h2 => ?_) fun _ _ x => x))
  exact seg_call h2
end
section
variable {prog : Program} {w : World} {A : Around} {R : GenEnd} {Y : Protocol} {n : Nat} {s₀ : Shared} {fs : List Frame} {s : Shared} {env : Env}
def badTurn (env : Env) (e : Value) : Sem PySem.Fin := (do noteFrame e env; theTreesLotGoes e : Sem Unit).wrap (fun _ => .raise e) .raise id id
theorem seg_forLoop {target : Expr} {it : Value} {body : List Stmt}
    (h : wpAny (model prog w) (A.over (.forLoop target it body [] env) fs) (pyNext it) (fun r s' => match r with
        | none => Seg (model prog w) A R Y n s₀ (.forLoop target it body [] env) (.pure (.again (.block [] env))) fs s'
        | some v => wpAny (model prog w) (A.over (.forLoop target it body [] env) fs) (letOwnedTupleGo target it v) (fun _ s2 => wpAny (model prog w) (A.over (.forLoop target it body [] env) fs) (assign target env v) (fun _ s3 =>
            Seg (model prog w) A R Y n s₀ (.forLoop target it body [] env) ((execs body env).wrap (fun f => match f with
              | .next | .cont => .pure (.again (.forLoop target it body [] env))
              | .brk => .pure (.done .next)
              | .ret v => .pure (.done (.ret v))) (badTurn env) id id) fs s3)
            (fun x s' => Seg (model prog w) A R Y n s₀ (.forLoop target it body [] env) (badTurn env x) fs s') s2) (fun x s' => Seg (model prog w) A R Y n s₀ (.forLoop target it body [] env) (badTurn env x) fs s') s')
      (fun x s' => Seg (model prog w) A R Y n s₀ (.forLoop target it body [] env) (badTurn env x) fs s') s) :
    Seg (model prog w) A R Y n s₀ (.forLoop target it body [] env) ((model prog w).den (.forLoop target it body [] env)) fs s := by
  show Seg _ A R Y n s₀ _ ((forTurn target it body [] env).onRaise (fun x => do noteFrame x env; theTreesLotGoes x)) fs s
  unfold forTurn
  rw [Sem.onRaise_eq_wrap]
  have bt : ∀ e, ((do noteFrame e env; theTreesLotGoes e : Sem Unit).bind fun _ => (.raise e : Sem PySem.Fin)) = badTurn env e := fun e => Sem.bind_eq_wrap _ _
  rw [funext bt]
  refine seg_at ?_
  show Seg _ A R Y n s₀ _ ((((pyNext it).onRaise (fun _ => standAt { target.pos with line := 0 })) >>= fun r => match r with
    | none => again (.block [] env)
    | some v => letOwnedTupleGo target it v >>= fun _ => assign target env v >>= fun _ => execs body env >>= fun f => match f with
      | .next | .cont => again (.forLoop target it body [] env)
      | .brk => pure (.done .next)
      | .ret v => pure (.done (.ret v))).wrap .pure (badTurn env) id id) fs s
  rw [Sem.bind_eq_wrap', Sem.wrap_wrap]
  refine seg_wrap (wpAny_onRaise (wpAny_mono h (fun r s' hr => ?_) (fun e s' he => wpAny_standAt he)))
  cases r with
  | none => exact hr
  | some v =>
    show Seg _ A R Y n s₀ _ ((letOwnedTupleGo target it v >>= fun _ => assign target env v >>= fun _ => execs body env >>= fun f => match f with
      | .next | .cont => again (.forLoop target it body [] env)
      | .brk => pure (.done .next)
      | .ret v => pure (.done (.ret v))).wrap .pure (badTurn env) id id) fs s'
    rw [Sem.bind_eq_wrap', Sem.wrap_wrap]
    refine seg_wrap (wpAny_mono hr (fun _ s2 h2 => ?_) fun _ _ x => x)
    show Seg _ A R Y n s₀ _ ((assign target env v >>= fun _ => execs body env >>= fun f => match f with
      | .next | .cont => again (.forLoop target it body [] env)
      | .brk => pure (.done .next)
      | .ret v => pure (.done (.ret v))).wrap .pure (badTurn env) id id) fs s2
    rw [Sem.bind_eq_wrap', Sem.wrap_wrap]
    refine seg_wrap (wpAny_mono h2 (fun _ s3 h3 => ?_) fun _ _ x => x)
    show Seg _ A R Y n s₀ _ ((execs body env >>= fun f => match f with
      | .next | .cont => again (.forLoop target it body [] env)
      | .brk => pure (.done .next)
      | .ret v => pure (.done (.ret v))).wrap .pure (badTurn env) id id) fs s3
    rw [Sem.bind_eq_wrap', Sem.wrap_wrap]
    have cg : (execs body env).wrap (fun a => (match a with
        | Flow.next | Flow.cont => again (.forLoop target it body [] env)
        | .brk => pure (Fin.done .next)
        | .ret v => pure (Fin.done (.ret v))).wrap Sem.pure (badTurn env) id id) (fun e => (Sem.raise e : Sem PySem.Fin).wrap Sem.pure (badTurn env) id id) id id = (execs body env).wrap (fun f => match f with
        | .next | .cont => Sem.pure (.again (.forLoop target it body [] env))
        | .brk => Sem.pure (.done .next)
        | .ret v => Sem.pure (.done (.ret v))) (badTurn env) id id := Sem.wrap_congr _ _ _ (fun f => by cases f <;> rfl) (fun e => rfl)
    show Seg _ A R Y n s₀ _ ((execs body env).wrap _ _ id id) fs s3
    rw [cg]
    exact h3
end
section
variable {X : Cx}
def tGIf (tc : TT) (ta tb : TGn) : TGn := fun D ys σ H => tc σ H fun b H1 => if b = true then ta D ys σ H1 else tb D ys σ H1
theorem gs_if {test : Expr} {body orelse : List Stmt} {pos : Pos} {tc : TT} {ta tb : TGn} (hc : PT X test tc) (ha : GSs X body ta) (hb : GSs X orelse tb) : GS X (.If test body orelse pos) (tGIf tc ta tb) := by
  refine ⟨fun A S ip R n ys s₀ c fs K J gd lv s σ H D g hn k hI ht => ?_⟩
  obtain ⟨acc, cc, r, I⟩ := hI
  refine seg_if ?_
  rw [g.over]
  refine wpAny_mono (hc.run _ s σ H _ I ht) (fun b s' hb' => ?_) fun x s' hx => k.exc n s₀ x s' hx
  obtain ⟨H2, I2, q2⟩ := hb'
  cases b with
  | true =>
    rw [if_pos rfl] at q2 ⊢
    exact ha.run A S ip R n ys s₀ c fs K J gd lv s' σ H2 D g hn k ⟨acc, cc, r, I2⟩ q2
  | false =>
    rw [if_neg Bool.false_ne_true] at q2 ⊢
    exact hb.run A S ip R n ys s₀ c fs K J gd lv s' σ H2 D g hn k ⟨acc, cc, r, I2⟩ q2
def tGFor (wi : TI) (g : TG) (tb : TGn) : TGn := fun D ys σ H => wi σ H fun J H1 => ∃ W : Nat → Nat → List V → L2.St → Hp → Prop, (∃ m, W 0 m ys σ H1) ∧ ∀ i m ys σ H, W i m ys σ H →
  (J.stop i H ∧ D.nx ys σ H) ∨ (J.go i H ∧ ∃ N : List V → L2.St → Hp → Prop, (∀ ys' σ' H', N ys' σ' H' → ∃ m', m' < m ∧ W (i + 1) m' ys' σ' H') ∧ ∀ x H', J.yld i H x H' → g x σ H' fun σ2 H2 => tb { D with nx := N, ct := N, bk := D.nx } ys σ2 H2)
theorem gs_for {tg iter : Expr} {body : List Stmt} {wi : TI} {g : TG} {tb : TGn} {pos : Pos} (hp : PassesOwn (model X.prog X.w) X.A X.env X.xe) (hc : X.calm = true) (hi : PI X tg iter wi) (hg : PG X tg g) (hb : GSs X body tb)
    (hs : ∀ x, foldedSetIterable iter X.env x = pure x := by intro _; rfl) : GS X (.For tg iter body [] pos) (tGFor wi g tb) := by
  refine ⟨fun A S ip R n ys s₀ c fs K JJ gd lv s σ H D gc hn k hI ht => ?_⟩
  obtain ⟨acc0, cc0, r0, I0⟩ := hI
  refine seg_for ?_ hs
  rw [gc.over]
  refine wpAny_mono (hi.run _ s σ H _ I0 ht) (fun v s1 h1 => ?_) (fun x s' hx => k.exc n s₀ x s' hx)
  refine wpAny_mono h1 (fun itv s2 h2 => ?_) (fun x s' hx => k.exc n s₀ x s' hx)
  obtain ⟨it, fp, tn, J, H2, e, I2, T, st2, f2, W, ⟨m0, w0⟩, turn⟩ := h2
  subst e
  intro p
  have stat : ∀ {acc : Array Value} {cc : Nat} {H' : Hp}, (∀ b ∈ fp, H' b = none) → ∀ b ∈ fp, FpOk X ((S, lstObj acc cc) :: ip) H' b := fun {acc cc H'} hn b hb => by
    obtain ⟨g0, g1, g2, g3, g4, g5⟩ := f2 b hb
    refine ⟨hn b hb, g1, g2, g3, g4, fun q hq => ?_⟩
    rcases List.mem_append.mp hq with hq | hq
    · exact g5 q (List.mem_append_left _ hq)
    · rcases List.mem_cons.mp hq with hq | hq
      · rw [hq]
        exact g5 (S, lstObj acc0 cc0) (List.mem_append_right _ List.mem_cons_self)
      · exact g5 q (List.mem_append_right _ (List.mem_cons_of_mem _ hq))
  have offS : ∀ b ∈ fp, b ≠ S := fun b hb z => by
    obtain ⟨g0, g1, g2, g3, g4, g5⟩ := f2 b hb
    exact g5 (S, lstObj acc0 cc0) (List.mem_append_right _ List.mem_cons_self) z.symm
  have gl := fun (kk : Result → Sem PySem.Fin) => gc_loop (k := kk) (c' := .forLoop tg (.ref it) body [] X.env) (l := lv []) (kp := []) (p := p) gc rfl rfl
  have loop : ∀ (m n i : Nat) (ys : List V) (s₀ s : Shared) (σ : L2.St) (H : Hp), n + ys.length = sizeLine → W i m ys σ H → GI X S ip ys σ H s → tn i s.heap → (∀ b ∈ fp, H b = none) →
      Seg (model X.prog X.w) A R (GY X S) n s₀ (.forLoop tg (.ref it) body [] X.env) ((model X.prog X.w).den (.forLoop tg (.ref it) body [] X.env))
        (.ret (fun r => ((match r with | .ok f => (.pure f : Sem Flow) | .error e => .raise e).onRaise (cameBack X.env)).wrap K JJ gd lv) none (gd false) (lv []) c p [] :: fs) s := by
    intro m
    induction m using Nat.strongRecOn with
    | ind m ih =>
      intro n i ys s₀ s σ H hn w hI st fr
      have ee : ∀ (n : Nat) (s₀ : Shared) (x : Value) (s' : Shared), X.xe x s' → Seg (model X.prog X.w) A R (GY X S) n s₀ (.forLoop tg (.ref it) body [] X.env) (badTurn X.env x)
          (.ret (fun r => ((match r with | .ok f => (.pure f : Sem Flow) | .error e => .raise e).onRaise (cameBack X.env)).wrap K JJ gd lv) none (gd false) (lv []) c p [] :: fs) s' := fun n s₀ x s' hx => by
        unfold badTurn
        refine seg_wrap ?_
        rw [(gl _).over]
        refine wpAny_bind (wpAny_mono (hp x s' hx) (fun _ s'' hcb => wpAny_theTreesLotGoes ?_) fun y s'' hcb => ?_)
        · exact seg_leaf (.error x) (seg_cameBack gc k hcb)
        · exact seg_leaf (.error y) (seg_cameBack gc k hcb)
      refine seg_forLoop ?_
      rw [(gl _).over]
      obtain ⟨acc, cc, r, I⟩ := hI
      rcases turn i m ys σ H w with ⟨stop, qn⟩ | ⟨go, N, hN, step⟩
      · refine wpAny_mono (T.done X rfl rfl rfl hc i _ s σ H X.xe I (stat fr) st stop) (fun r' s4 h4 => ?_) (fun x s' hx => ee n s₀ x s' hx)
        obtain ⟨hr, I4⟩ := h4
        subst hr
        refine seg_again rfl ?_
        exact seg_leaf (.ok .next) (k.ok n ys s₀ s4 .next hn ⟨σ, H, ⟨acc, cc, r, I4⟩, qn⟩)
      · refine wpAny_mono (T.item X rfl rfl rfl hc i _ s σ H X.xe I (stat fr) st go) (fun r' s4 h4 => ?_) (fun x s' hx => ee n s₀ x s' hx)
        obtain ⟨u, hr, h4⟩ := h4
        subst hr
        refine wpAny_mono h4 (fun _ s5 h5 => ?_) (fun x s' hx => ee n s₀ x s' hx)
        obtain ⟨x, H5, I5, r5, y5, st5, fr5⟩ := h5
        have I5' := I5.pinned (stat fr5) (T.obj _ _ st5)
        refine wpAny_mono (hg.run _ s5 σ H5 x u _ I5' r5 (step x H5 y5)) (fun _ s6 h6 => ?_) (fun x s' hx => ee n s₀ x s' hx)
        obtain ⟨σ6, H6, I6, q6⟩ := h6
        have gl2 : ∀ kk : Result → Sem PySem.Fin, GC X S (ip ++ pinsAt fp s5.heap) A (.forLoop tg (.ref it) body [] X.env) (.ret kk none (gd false) (lv []) c p [] :: fs) id := fun kk => ⟨(gl kk).pn, fun q hq => (List.mem_append.mp hq).elim (gc.ip q) fun z => offS _ (of_pinsAt z).1, (gl kk).apart, (gl kk).over, (gl kk).split, (gl kk).guard, (gl kk).gd⟩
        refine hb.run A S (ip ++ pinsAt fp s5.heap) R n ys s₀ _ _ _ _ id id s6 σ6 H6 { D with nx := N, ct := N, bk := D.nx } (gl2 _) hn ⟨fun n' ys' s₀' s7 f hn' hs => ?_, fun n' s₀' x s3 hx => ee n' s₀' x s3 hx⟩ ⟨acc, cc, r, I6⟩ q6
        have again : ∀ {σ7 : L2.St} {H7 : Hp}, GI X S (ip ++ pinsAt fp s5.heap) ys' σ7 H7 s7 → N ys' σ7 H7 → Seg (model X.prog X.w) A R (GY X S) n' s₀' (.forLoop tg (.ref it) body [] X.env) (.pure (.again (.forLoop tg (.ref it) body [] X.env)))
            (.ret (fun r => ((match r with | .ok f => (.pure f : Sem Flow) | .error e => .raise e).onRaise (cameBack X.env)).wrap K JJ gd lv) none (gd false) (lv []) c p [] :: fs) s7 := fun {σ7 H7} g7 n7 => by
          obtain ⟨acc7, cc7, r7, I7⟩ := g7
          obtain ⟨m', hm, w7⟩ := hN ys' σ7 H7 n7
          have at7 : ∀ b ∈ fp, ∀ o, s5.heap.get? b = some o → s7.heap.get? b = some o ∧ H7 b = none := fun b hb o e => by
            have q := I7.pin (b, o) (List.mem_append_right _ (List.mem_cons_of_mem _ (List.mem_append_right _ (mem_pinsAt hb e))))
            exact ⟨q.1, q.2.1⟩
          refine seg_again rfl (ih m' hm n' (i + 1) ys' s₀' s7 σ7 H7 hn' w7 ⟨acc7, cc7, r7, I7.pins_of fun q hq => I7.pin q ?_⟩ (T.keep _ _ _ st5 fun b hb o e => (at7 b hb o e).1) fun b hb => ?_)
          · rcases List.mem_cons.mp hq with hq | hq
            · exact List.mem_append_right _ (hq ▸ List.mem_cons_self)
            · exact List.mem_append_right _ (List.mem_cons_of_mem _ (List.mem_append_left _ hq))
          · obtain ⟨o, e, d⟩ := T.obj _ _ st5 b hb
            exact (at7 b hb o e).2
        have less : ∀ {ys' : List V} {σ7 : L2.St} {H7 : Hp}, GI X S (ip ++ pinsAt fp s5.heap) ys' σ7 H7 s7 → GI X S ip ys' σ7 H7 s7 := fun {ys' σ7 H7} g7 => by
          obtain ⟨acc7, cc7, r7, I7⟩ := g7
          refine ⟨acc7, cc7, r7, I7.pins_of fun q hq => I7.pin q ?_⟩
          rcases List.mem_cons.mp hq with hq | hq
          · exact List.mem_append_right _ (hq ▸ List.mem_cons_self)
          · exact List.mem_append_right _ (List.mem_cons_of_mem _ (List.mem_append_left _ hq))
        cases f with
        | next =>
          obtain ⟨σ7, H7, I7, n7⟩ := hs
          exact again I7 n7
        | cont =>
          obtain ⟨σ7, H7, I7, n7⟩ := hs
          exact again I7 n7
        | brk =>
          obtain ⟨σ7, H7, I7, q7⟩ := hs
          exact seg_leaf (.ok .next) (k.ok n' ys' s₀' s7 .next hn' ⟨σ7, H7, less I7, q7⟩)
        | ret v =>
          obtain ⟨v7, σ7, H7, I7, r7, q7⟩ := hs
          exact seg_leaf (.ok (.ret v)) (k.ok n' ys' s₀' s7 (.ret v) hn' ⟨v7, σ7, H7, less I7, r7, q7⟩)
  exact loop m0 n 0 ys s₀ s2 σ H2 hn w0 ⟨acc0, cc0, r0, I2⟩ st2 fun b hb => (f2 b hb).1
end
end PSW

set_option Elab.async false
set_option linter.all false
set_option maxRecDepth 100000
set_option maxHeartbeats 4000000
/-! list(zip(..)), zip of three -/
namespace PSY
open PySem PySem.Spec PyProof.Rows L2
open PySem.Sem (wp)
section
variable {prog : Program} {w : World} {A : Around} {E : Value → Shared → Prop} {s : Shared} {z TI TO i1 i2 : Addr} {fp1 fp2 : List Addr} {n1 n2 i : Nat} {P1 P2 : Nat → Value → Prop} {St1 St2 : Nat → Heap → Prop}
theorem alive_of {T : Addr} {Q : Option Obj → Shared → Prop} (h : Q (s.heap.get? T) s) : wpAny (model prog w) A (loadIfAlive T) Q E s := fun Γ p hΓ => by
  show wp _ Γ (Sem.loadIfAlive T Sem.pure) _ _ _ _
  rw [Sem.wp_loadIfAlive]
  exact (wpAny_pure h : wpAny (model prog w) A (Sem.pure (s.heap.get? T)) Q E s) Γ p hΓ
/-- zip, whose last tuple is held elsewhere -/
abbrev Zk (h : Heap) (z TI TO T : Addr) (fl : Bool) : Prop := h.get? z = some { cls := .type "zip", data := .fields #[rawInt T, .bool fl, .bool false, .ref TI, .ref TO] }
theorem held_step {T : Addr} {fl : Bool} {Q : Bool → Shared → Prop} (hz : Zk s.heap z TI TO T fl) (hT : ∃ o, s.heap.get? T = some o) (hQ : ∀ h', Zk h' z TI TO T true → Heap.SameBut z s.heap h' → Q false { s with heap := h' }) :
    wpAny (model prog w) A (Builtin.SmallTypes.ownedTupleIsFree (.ref z)) Q E s := by
  obtain ⟨o, hT⟩ := hT
  unfold Builtin.SmallTypes.ownedTupleIsFree
  refine wpAny_bind (wpAny_field hz rfl (x := rawInt T) rfl ?_)
  show wpAny _ _ (loadIfAlive ((T : Int)).toNat >>= _) _ _ _
  rw [Int.toNat_natCast]
  refine wpAny_bind (alive_of ?_)
  rw [hT]
  show wpAny _ _ (field (.ref z) 1 >>= _) _ _ _
  refine wpAny_bind (wpAny_field hz rfl (x := .bool fl) rfl ?_)
  cases fl with
  | true =>
    exact wpAny_pure (hQ _ hz (Heap.SameBut.refl ..))
  | false =>
    refine wpAny_bind (wpAny_setField_rec hz (by simp) fun h' hz' hs' => ?_)
    exact wpAny_pure (hQ _ hz' hs')
theorem zipK_item {T : Addr} {fl : Bool} {Q : Value → Shared → Prop} (S : ZipSep2 z TI TO i1 i2 fp1 fp2) (D1 : Draws prog w A i1 fp1 n1 P1 St1) (D2 : Draws prog w A i2 fp2 n2 P2 St2)
    (hz : Zk s.heap z TI TO T fl) (hT : ∃ o, s.heap.get? T = some o) (hTI : IsTupOf2 s.heap TI (.ref i1) (.ref i2)) (st1 : St1 i s.heap) (st2 : St2 i s.heap) (hlt1 : i < n1) (hlt2 : i < n2)
    (hQ : ∀ x1 x2 h' tk, P1 i x1 → P2 i x2 → Zk h' z TI TO T true → St1 (i + 1) h' → St2 (i + 1) h' → IsTupOf2 h' s.heap.objs.size x1 x2 → h'.objs.size = s.heap.objs.size + 1 →
      (∀ c o, c ≠ z → c ≠ i1 → c ≠ i2 → s.heap.get? c = some o → h'.get? c = some o) → Q (.ref s.heap.objs.size) { s with heap := h', toks := tk }) :
    wpAny (model prog w) A (Builtin.«zip.__next__» ⟨[.ref z], []⟩) (fun fin s' => ∃ v, fin = .done (.ret v) ∧ Q v s') E s := by
  obtain ⟨hp, g, d, tk0, os⟩ := s
  show wpAny _ _ (field (.ref z) 2 >>= _) _ _ _
  refine wpAny_bind (wpAny_field hz rfl (x := .bool false) rfl ?_)
  show wpAny _ _ (field (.ref z) 3 >>= _) _ _ _
  refine wpAny_bind (wpAny_field hz rfl (x := .ref TI) rfl ?_)
  refine wpAny_bind (wpAny_seqItems hTI rfl ?_)
  show wpAny _ _ (Builtin.SmallTypes.ownedTupleIsFree (.ref z) >>= _) _ _ _
  refine wpAny_bind (held_step hz hT fun g0 hz0 hs0 => ?_)
  replace hs0 : Heap.SameBut z hp g0 := hs0
  simp only [Bool.false_eq_true, if_false]
  refine wpAny_bind ?_
  rw [← Array.forIn_toList]
  simp only [List.forIn_cons, List.forIn_nil]
  refine wpAny_bind (wpAny_bind (wpAny_holding ?_))
  show wpAny _ _ (Builtin.SmallTypes.nextOf (.ref i1) >>= _) _ _ ⟨g0, g, d, tk0, os⟩
  refine wpAny_bind (D1.item i _ _ _ hlt1 (D1.over st1 hs0 S.zf1) fun x1 p1 tk1 hx1 sn1 hp1 => wpAny_pure ?_)
  replace hp1 : Heap.SameBut i1 g0 p1 := hp1
  refine wpAny_pure ?_
  refine wpAny_bind (wpAny_bind (wpAny_holding ?_))
  show wpAny _ _ (Builtin.SmallTypes.nextOf (.ref i2) >>= _) _ _ ⟨p1, g, d, tk1, os⟩
  refine wpAny_bind (D2.item i _ _ _ hlt2 (D2.over (D2.over st2 hs0 S.zf2) hp1 S.sep1_2) fun x2 p2 tk2 hx2 sn2 hp2 => wpAny_pure ?_)
  replace hp2 : Heap.SameBut i2 p1 p2 := hp2
  refine wpAny_pure (wpAny_pure ?_)
  show wpAny _ _ (newTuple [x1, x2] >>= fun v => ret v) _ _ _
  refine wpAny_bind (wpAny_newTuple ?_)
  have hsz : p2.objs.size = hp.objs.size := by rw [hp2.1, hp1.1, hs0.1]
  have up : ∀ c o, c ≠ z → c ≠ i1 → c ≠ i2 → hp.get? c = some o → (p2.push { cls := .type "tuple", data := .seq #[x1, x2] }).get? c = some o := fun c o cz c1 c2 e =>
    Heap.get?_push_of_some _ (hp2.extBut _ _ c2 (hp1.extBut _ _ c1 (hs0.extBut _ _ cz e)))
  have zz : Zk (p2.push { cls := .type "tuple", data := .seq #[x1, x2] }) z TI TO T true := Heap.get?_push_of_some _ (hp2.extBut _ _ S.zi2 (hp1.extBut _ _ S.zi1 hz0))
  have s1' : St1 (i + 1) p2 := D1.over sn1 hp2 S.sep2_1
  have hT8 : IsTupOf2 (p2.push { cls := .type "tuple", data := .seq #[x1, x2] }) p2.objs.size x1 x2 := Heap.get?_push_size _ rfl
  rw [hsz] at hT8
  refine wpAny_pure ⟨_, rfl, ?_⟩
  show Q (.ref p2.objs.size) ⟨p2.push { cls := .type "tuple", data := .seq #[x1, x2] }, g, d, tk2, os⟩
  rw [hsz]
  exact hQ x1 x2 _ tk2 hx1 hx2 zz (D1.frame _ _ _ s1' fun b _ o e => Heap.get?_push_of_some _ e) (D2.frame _ _ _ sn2 fun b _ o e => Heap.get?_push_of_some _ e) hT8 (by rw [Heap.size_push, hsz]) up
theorem zipK_end {T : Addr} {fl : Bool} {Q : PySem.Fin → Shared → Prop} (S : ZipSep2 z TI TO i1 i2 fp1 fp2) (D1 : Draws prog w A i1 fp1 n1 P1 St1) (D2 : Draws prog w A i2 fp2 n2 P2 St2)
    (hz : Zk s.heap z TI TO T fl) (hT : ∃ o, s.heap.get? T = some o) (hTI : IsTupOf2 s.heap TI (.ref i1) (.ref i2)) (st1 : St1 i s.heap) (st2 : St2 i s.heap) (hle1 : i ≤ n1) (hle2 : i ≤ n2) (hend : i = n1 ∨ i = n2)
    (hE : ∀ h' tk e, (∀ c o, c ≠ z → c ≠ i1 → c ≠ i2 → s.heap.get? c = some o → h'.get? c = some o) → (∃ o, h'.get? e = some o ∧ o.cls = .type "StopIteration") → E (.ref e) { s with heap := h', toks := tk }) :
    wpAny (model prog w) A (Builtin.«zip.__next__» ⟨[.ref z], []⟩) Q E s := by
  obtain ⟨hp, g, d, tk0, os⟩ := s
  show wpAny _ _ (field (.ref z) 2 >>= _) _ _ _
  refine wpAny_bind (wpAny_field hz rfl (x := .bool false) rfl ?_)
  show wpAny _ _ (field (.ref z) 3 >>= _) _ _ _
  refine wpAny_bind (wpAny_field hz rfl (x := .ref TI) rfl ?_)
  refine wpAny_bind (wpAny_seqItems hTI rfl ?_)
  show wpAny _ _ (Builtin.SmallTypes.ownedTupleIsFree (.ref z) >>= _) _ _ _
  refine wpAny_bind (held_step hz hT fun g0 hz0 hs0 => ?_)
  replace hs0 : Heap.SameBut z hp g0 := hs0
  simp only [Bool.false_eq_true, if_false]
  refine wpAny_bind ?_
  rw [← Array.forIn_toList]
  simp only [List.forIn_cons, List.forIn_nil]
  refine wpAny_bind (wpAny_bind (wpAny_holding ?_))
  show wpAny _ _ (Builtin.SmallTypes.nextOf (.ref i1) >>= _) _ _ ⟨g0, g, d, tk0, os⟩
  by_cases hlt1 : i < n1
  · refine wpAny_bind (D1.item i _ _ _ hlt1 (D1.over st1 hs0 S.zf1) fun x1 p1 tk1 hx1 sn1 hp1 => wpAny_pure ?_)
    replace hp1 : Heap.SameBut i1 g0 p1 := hp1
    refine wpAny_pure ?_
    have hi2 : i = n2 := by omega
    refine wpAny_bind (wpAny_bind (wpAny_holding ?_))
    show wpAny _ _ (Builtin.SmallTypes.nextOf (.ref i2) >>= _) _ _ ⟨p1, g, d, tk1, os⟩
    refine wpAny_bind (D2.done ⟨p1, g, d, tk1, os⟩ _ _ (by rw [← hi2]; exact D2.over (D2.over st2 hs0 S.zf2) hp1 S.sep1_2) fun q e hq he => ?_)
    replace hq : Heap.ExtBut i2 p1 q := hq
    exact hE q tk1 e (fun c o cz c1 c2 x => hq _ _ c2 (hp1.extBut _ _ c1 (hs0.extBut _ _ cz x))) he
  · have hi1 : i = n1 := by omega
    refine wpAny_bind (D1.done ⟨g0, g, d, tk0, os⟩ _ _ (by rw [← hi1]; exact D1.over st1 hs0 S.zf1) fun q e hq he => ?_)
    replace hq : Heap.ExtBut i1 g0 q := hq
    exact hE q tk0 e (fun c o cz c1 c2 x => hq _ _ c1 (hs0.extBut _ _ cz x)) he
theorem nextK_item {T : Addr} {fl : Bool} {Q : Option Value → Shared → Prop} (S : ZipSep2 z TI TO i1 i2 fp1 fp2) (D1 : Draws prog w A.in1 i1 fp1 n1 P1 St1) (D2 : Draws prog w A.in1 i2 fp2 n2 P2 St2)
    (hz : Zk s.heap z TI TO T fl) (hT : ∃ o, s.heap.get? T = some o) (hTI : IsTupOf2 s.heap TI (.ref i1) (.ref i2)) (st1 : St1 i s.heap) (st2 : St2 i s.heap) (hlt1 : i < n1) (hlt2 : i < n2)
    (hQ : ∀ x1 x2 h' tk, P1 i x1 → P2 i x2 → Zk h' z TI TO T true → St1 (i + 1) h' → St2 (i + 1) h' → IsTupOf2 h' s.heap.objs.size x1 x2 → h'.objs.size = s.heap.objs.size + 1 →
      (∀ c o, c ≠ z → c ≠ i1 → c ≠ i2 → s.heap.get? c = some o → h'.get? c = some o) → Q (some (.ref s.heap.objs.size)) { s with heap := h', toks := tk }) :
    wpAny (model prog w) A (pyNext (.ref z)) Q E s := by
  have hT' : s.TypeIs (.ref z) "zip" := ⟨_, hz, rfl⟩
  unfold pyNext
  exact wpAny_bind (wpAny_attempt (wpAny_callSpecial?_slot (name := Str.ofString "__next__") hT' F.slot_zip_next
    (wpAny_call_entry F.slot_zip_next hT' F.entry_zip_next
      (zipK_item S D1 D2 hz hT hTI st1 st2 hlt1 hlt2 fun x1 x2 h' tk y1 y2 b1 d1 d2 b5 b6 b7 => wpAny_pure (hQ x1 x2 h' tk y1 y2 b1 d1 d2 b5 b6 b7)) (F.args_zip_next_1 _))))
theorem nextK_end {T : Addr} {fl : Bool} {Q : Option Value → Shared → Prop} (S : ZipSep2 z TI TO i1 i2 fp1 fp2) (D1 : Draws prog w A.in1 i1 fp1 n1 P1 St1) (D2 : Draws prog w A.in1 i2 fp2 n2 P2 St2)
    (hz : Zk s.heap z TI TO T fl) (hT : ∃ o, s.heap.get? T = some o) (hTI : IsTupOf2 s.heap TI (.ref i1) (.ref i2)) (st1 : St1 i s.heap) (st2 : St2 i s.heap) (hle1 : i ≤ n1) (hle2 : i ≤ n2) (hend : i = n1 ∨ i = n2)
    (hQ : ∀ h' tk, (∀ c o, c ≠ z → c ≠ i1 → c ≠ i2 → s.heap.get? c = some o → h'.get? c = some o) → Q none { s with heap := h', toks := tk }) : wpAny (model prog w) A (pyNext (.ref z)) Q E s := by
  have hT' : s.TypeIs (.ref z) "zip" := ⟨_, hz, rfl⟩
  unfold pyNext
  refine wpAny_bind (wpAny_attempt (wpAny_callSpecial?_slot (name := Str.ofString "__next__") hT' F.slot_zip_next
    (wpAny_call_entry F.slot_zip_next hT' F.entry_zip_next (zipK_end S D1 D2 hz hT hTI st1 st2 hle1 hle2 hend fun h' tk e hk he => ?_) (F.args_zip_next_1 _))))
  obtain ⟨o, ho, hc⟩ := he
  refine wpAny_bind (wpAny_isInstance (T := "StopIteration") (b := true) ⟨o, ho, hc⟩ isSubtype_stop ?_)
  exact wpAny_pure (hQ _ _ hk)
/-- zip as it stands: nothing handed out, or the last tuple is held elsewhere -/
def ZAt (h : Heap) (z TI TO : Addr) : Prop := (IsZip h z TI TO .none ∧ ∃ a b, IsTupOf2 h TO a b) ∨ ∃ T fl, Zk h z TI TO T fl ∧ ∃ o, h.get? T = some o
theorem next_any {Q : Option Value → Shared → Prop} (S : ZipSep2 z TI TO i1 i2 fp1 fp2) (D1 : Draws prog w A.in1 i1 fp1 n1 P1 St1) (D2 : Draws prog w A.in1 i2 fp2 n2 P2 St2)
    (za : ZAt s.heap z TI TO) (hTI : IsTupOf2 s.heap TI (.ref i1) (.ref i2)) (st1 : St1 i s.heap) (st2 : St2 i s.heap) (hlt1 : i < n1) (hlt2 : i < n2)
    (hQ : ∀ x1 x2 h' tk, P1 i x1 → P2 i x2 → ZAt h' z TI TO → St1 (i + 1) h' → St2 (i + 1) h' → IsTupOf2 h' s.heap.objs.size x1 x2 →
      (∀ c o, c ≠ z → c ≠ TO → c ≠ i1 → c ≠ i2 → s.heap.get? c = some o → h'.get? c = some o) → Q (some (.ref s.heap.objs.size)) { s with heap := h', toks := tk }) :
    wpAny (model prog w) A (pyNext (.ref z)) Q E s := by
  rcases za with ⟨hz, a, b, hTO⟩ | ⟨T, fl, hz, hT⟩
  · exact wpAny_pyNext_zipD2_item S D1 D2 hz hTI hTO st1 st2 hlt1 hlt2 fun x1 x2 h' tk y1 y2 b1 b2 d1 d2 b5 b6 b7 => hQ x1 x2 h' tk y1 y2 (.inr ⟨_, false, b1, _, b5⟩) d1 d2 b5 b7
  · refine nextK_item S D1 D2 hz hT hTI st1 st2 hlt1 hlt2 fun x1 x2 h' tk y1 y2 b1 d1 d2 b5 b6 b7 => hQ x1 x2 h' tk y1 y2 (.inr ⟨T, true, b1, ?_⟩) d1 d2 b5 fun c o c1 _ c3 c4 e => b7 c o c1 c3 c4 e
    by_cases e1 : T = z
    · exact ⟨_, by rw [e1]; exact b1⟩
    by_cases e2 : T = i1
    · exact e2 ▸ D1.live _ _ d1
    by_cases e3 : T = i2
    · exact e3 ▸ D2.live _ _ d2
    obtain ⟨o, ho⟩ := hT
    exact ⟨o, b7 _ _ e1 e2 e3 ho⟩
theorem end_any {Q : Option Value → Shared → Prop} (S : ZipSep2 z TI TO i1 i2 fp1 fp2) (D1 : Draws prog w A.in1 i1 fp1 n1 P1 St1) (D2 : Draws prog w A.in1 i2 fp2 n2 P2 St2)
    (za : ZAt s.heap z TI TO) (hTI : IsTupOf2 s.heap TI (.ref i1) (.ref i2)) (st1 : St1 i s.heap) (st2 : St2 i s.heap) (hle1 : i ≤ n1) (hle2 : i ≤ n2) (hend : i = n1 ∨ i = n2)
    (hQ : ∀ h' tk, (∀ c o, c ≠ z → c ≠ TO → c ≠ i1 → c ≠ i2 → s.heap.get? c = some o → h'.get? c = some o) → Q none { s with heap := h', toks := tk }) : wpAny (model prog w) A (pyNext (.ref z)) Q E s := by
  rcases za with ⟨hz, a, b, hTO⟩ | ⟨T, fl, hz, hT⟩
  · exact wpAny_pyNext_zipD2_end S D1 D2 hz hTI hTO st1 st2 hle1 hle2 hend hQ
  · exact nextK_end S D1 D2 hz hT hTI st1 st2 hle1 hle2 hend fun h' tk b7 => hQ h' tk fun c o c1 _ c3 c4 e => b7 c o c1 c3 c4 e
end
section
variable {X : Cx} {pins : List (Addr × Obj)} {σ : L2.St} {A : Around} {R : Result → Shared → Prop} {S z TI TO i1 i2 : Addr} {fp1 fp2 : List Addr} {n : Nat} {St1 St2 : Nat → Heap → Prop} {xs ys : List V} {its1 its2 : List Value} {H0 : Hp} {res : Value}
theorem loop_zip (Sp : ZipSep2 z TI TO i1 i2 fp1 fp2) (D1 : Draws X.prog X.w A.in1.in1 i1 fp1 its1.toArray.size (fun i v => its1.toArray[i]? = some v) St1) (D2 : Draws X.prog X.w A.in1.in1 i2 fp2 its2.toArray.size (fun i v => its2.toArray[i]? = some v) St2)
    (r1 : Vals xs its1) (r2 : Vals ys its2) (l1 : xs.length = n) (l2 : ys.length = n) (hn : n ≤ sizeLine) (hS : S ∉ z :: TI :: TO :: (fp1 ++ fp2)) :
    ∀ (k i : Nat) (s : Shared) (H : Hp) (ps : List Addr), n - i = k → i ≤ n → Inv X pins σ H s → (∀ b ∈ [z, TI, TO, i1, i2], FpOk X pins H b) → (∀ b ∈ [z, TI, TO, i1, i2], b < s.heap.objs.size) → ZAt s.heap z TI TO → IsTupOf2 s.heap TI (.ref i1) (.ref i2) → St1 i s.heap → St2 i s.heap →
    H S = some (.lst (ps.map V.ref)) → ps.length = i → (∀ (j : Nat) p, ps[j]? = some p → ∃ x y, xs[j]? = some x ∧ ys[j]? = some y ∧ H p = some (.tup [x, y])) → (∀ b o, b ≠ S → H0 b = some o → H b = some o) →
    (∀ (s' : Shared) (H' : Hp) (ps' : List Addr), Inv X pins σ H' s' → H' S = some (.lst (ps'.map V.ref)) → ps'.length = n → (∀ (j : Nat) p, ps'[j]? = some p → ∃ x y, xs[j]? = some x ∧ ys[j]? = some y ∧ H' p = some (.tup [x, y])) → (∀ b o, b ≠ S → H0 b = some o → H' b = some o) → R (.ok (.ret res)) s') →
    codeAny (model X.prog X.w) A (.builtin "list.extend.loop" ⟨[.ref S, .ref z, res], []⟩) R s := by
  simp only [List.mem_cons, List.mem_append, not_or] at hS
  obtain ⟨hSz, hSTI, hSTO, hS1, hS2⟩ := hS
  have out : ∀ c, c ∉ [z, TI, TO, i1, i2] → c ≠ z ∧ c ≠ TO ∧ c ≠ i1 ∧ c ≠ i2 := fun c n => by
    simp only [List.mem_cons, List.not_mem_nil, or_false, not_or] at n
    exact ⟨n.1, n.2.2.1, n.2.2.2.1, n.2.2.2.2⟩
  have SO : S ∉ [z, TI, TO, i1, i2] := by
    simp only [List.mem_cons, List.not_mem_nil, or_false, not_or]
    exact ⟨hSz, hSTI, hSTO, fun e => hS1 (e ▸ Sp.mem1), fun e => hS2 (e ▸ Sp.mem2)⟩
  have z1 : its1.toArray.size = n := by rw [List.size_toArray, ← r1.length]; exact l1
  have z2 : its2.toArray.size = n := by rw [List.size_toArray, ← r2.length]; exact l2
  intro k
  induction k with
  | zero =>
    intro i s H ps hk hi I fp low za hTI st1 st2 hS lp al kp fin
    have hin : i = n := by omega
    refine codeAny_builtin F.entry_extend_loop ?_
    rw [Around.under_plainId F.plain_extend_loop _]
    show wpAny _ A.in1 (pyNext (.ref z) >>= _) _ _ s
    refine wpAny_bind (end_any Sp D1 D2 za hTI st1 st2 (by omega) (by omega) (.inl (by omega)) fun h' tk kk => ?_)
    refine wpAny_pure (fin _ H ps (I.turnedL (t' := tk) (ch := [z, TI, TO, i1, i2]) (fun c o n q => kk c o (out c n).1 (out c n).2.1 (out c n).2.2.1 (out c n).2.2.2 q) fp) hS (by omega) al kp)
  | succ k ih =>
    intro i s H ps hk hi I fp low za hTI st1 st2 hS lp al kp fin
    have hlt : i < n := by omega
    refine codeAny_builtin F.entry_extend_loop ?_
    rw [Around.under_plainId F.plain_extend_loop _]
    show wpAny _ A.in1 (pyNext (.ref z) >>= _) _ _ s
    refine wpAny_bind (next_any Sp D1 D2 za hTI st1 st2 (by omega) (by omega) fun x1 x2 h' tk y1 y2 za' st1' st2' hT kk => ?_)
    have hx : xs[i]? = some xs[i] := List.getElem?_eq_getElem (by omega)
    have hy : ys[i]? = some ys[i] := List.getElem?_eq_getElem (by omega)
    obtain ⟨u1, hu1, ru1⟩ := r1.get hx
    obtain ⟨u2, hu2, ru2⟩ := r2.get hy
    have e1 : u1 = x1 := Option.some.inj (hu1.symm.trans (by simpa using y1))
    have e2 : u2 = x2 := Option.some.inj (hu2.symm.trans (by simpa using y2))
    subst e1 e2
    have new : ObjOk X.prog X.w (upd H s.heap.objs.size (.tup [xs[i], ys[i]])) h' s.heap.objs.size (.tup [xs[i], ys[i]]) :=
      ⟨by show 2 ≤ sizeLine; decide, _, .cons ru1 (.cons ru2 .nil), ⟨_, hT, rfl, _, rfl⟩⟩
    have J := I.turnedNew (t' := tk) (ch := [z, TI, TO, i1, i2]) (fun c o n q => kk c o (out c n).1 (out c n).2.1 (out c n).2.2.1 (out c n).2.2.2 q) fp (Nat.le_refl _) new
    have nT : H s.heap.objs.size = none := I.hok.fresh (Nat.le_refl _)
    have SneT : S ≠ s.heap.objs.size := ne_of_none hS nT
    have hS1' : upd H s.heap.objs.size (.tup [xs[i], ys[i]]) S = some (.lst (ps.map V.ref)) := (upd_ne SneT).trans hS
    obtain ⟨hz, its, nn, rv, hl, e⟩ := J.lstM hS1'
    have lits : its.length = i := by rw [← hl, List.length_map, lp]
    replace e : h'.get? S = some { cls := .type "list", data := .seq its.toArray nn } := e
    have J2 := J.lset (t' := tk) (its' := its ++ [.ref s.heap.objs.size]) (f := (·.push (.ref s.heap.objs.size))) hS1' e (by simp) (ys := ps.map V.ref ++ [.ref s.heap.objs.size]) (rv.append (.cons (show RelV (V.ref s.heap.objs.size) (Value.ref s.heap.objs.size) from rfl) .nil)) (by rw [List.length_append, List.length_map, List.length_singleton]; omega)
    have oth : ∀ b o, b ≠ S → h'.get? b = some o → (h'.update S (Obj.mapSeq (·.push (.ref s.heap.objs.size)))).get? b = some o := fun b o hb q => (Heap.get?_update_other _ _ (Ne.symm hb)).trans q
    have selfS := Heap.get?_update_self (Obj.mapSeq (·.push (.ref s.heap.objs.size))) e rfl
    have bT : s.heap.objs.size < h'.objs.size := Heap.lt_size hT
    show wpAny _ A.in1 (updateSeq S (·.push (.ref s.heap.objs.size)) >>= _) _ _ _
    refine wpAny_bind ?_
    refine wpAny_updateSeq e rfl (wpAny_pure ⟨plainId_quiet F.plain_extend_loop _, ih (i + 1) _ _ (ps ++ [s.heap.objs.size]) (by omega) hlt J2 (fun b hb => ?_) (fun b hb => ?_) ?_ (oth _ _ (fun w => hSTI w.symm) ?_) (D1.frame _ _ _ st1' fun b hb o q => oth b o (fun w => hS1 (w ▸ hb)) q) (D2.frame _ _ _ st2' fun b hb o q => oth b o (fun w => hS2 (w ▸ hb)) q) ?_ (by rw [List.length_append, lp]; rfl) (fun j p hp => ?_) (fun b o nb q => ?_) fin⟩) ?_ ?_
    · obtain ⟨g0, g1, g2, g3, g4, g5⟩ := fp b hb
      refine ⟨?_, g1, g2, g3, g4, g5⟩
      rw [upd_ne (fun w => SO (by rw [← w]; exact hb)), upd_ne (Nat.ne_of_lt (low b hb))]
      exact g0
    · show b < (h'.update S (Obj.mapSeq (·.push (.ref s.heap.objs.size)))).objs.size
      rw [Heap.size_update]
      exact Nat.lt_trans (low b hb) bT
    · rcases za' with ⟨hz', a, b, hTO⟩ | ⟨T, fl, hz', o, hT'⟩
      · exact .inl ⟨oth _ _ (fun w => hSz w.symm) hz', a, b, oth _ _ (fun w => hSTO w.symm) hTO⟩
      · refine .inr ⟨T, fl, oth _ _ (fun w => hSz w.symm) hz', ?_⟩
        by_cases w : T = S
        · exact ⟨_, by rw [w]; exact selfS⟩
        · exact ⟨o, oth _ _ w hT'⟩
    · exact kk _ _ Sp.TIz Sp.TITO Sp.TIi1 Sp.TIi2 hTI
    · rw [upd_same, List.map_append]
      rfl
    · by_cases lj : j < ps.length
      · rw [List.getElem?_append_left lj] at hp
        obtain ⟨x, y, q1, q2, q3⟩ := al j p hp
        refine ⟨x, y, q1, q2, ?_⟩
        have npS : p ≠ S := fun w => by
          rw [w, hS] at q3
          cases q3
        rw [upd_ne npS, upd_ne (ne_of_none q3 nT)]
        exact q3
      · rw [List.getElem?_append_right (Nat.le_of_not_lt lj)] at hp
        have j0 : j - ps.length = 0 := Nat.lt_one_iff.mp (List.getElem?_eq_some_iff.mp hp).1
        rw [j0] at hp
        obtain rfl : s.heap.objs.size = p := Option.some.inj hp
        have ej : j = i := (Nat.le_antisymm (Nat.sub_eq_zero_iff_le.mp j0) (Nat.le_of_not_lt lj)).trans lp
        rw [ej]
        refine ⟨_, _, hx, hy, ?_⟩
        rw [upd_ne SneT.symm, upd_same]
    · have q2 := kp b o nb q
      rw [upd_ne nb, upd_ne (ne_of_none q2 nT)]
      exact q2
    · rw [List.size_toArray]
      omega
    · show (its.toArray.push _).size ≤ sizeLine + 1
      rw [Array.size_push, List.size_toArray]
      omega
end
theorem nolen_zip : typeLookup (.type "zip") "__len__" = pure none := by rw [typeLookup_type, builtinLookup_eq_fast]; kernel_rfl
theorem nohint_zip : typeLookup (.type "zip") "__length_hint__" = pure none := by rw [typeLookup_type, builtinLookup_eq_fast]; kernel_rfl
section
variable {prog : Program} {w : World} {A : Around} {E : Value → Shared → Prop} {s : Shared} {z TI TO : Addr}
theorem hint_zip {Q : Bool → Shared → Prop} (hz : IsZip s.heap z TI TO .none) (h : Q true s) : wpAny (model prog w) A (Builtin.List.listLengthHint (.ref z)) Q E s := by
  have hT : s.TypeIs (.ref z) "zip" := ⟨_, hz, rfl⟩
  unfold Builtin.List.listLengthHint
  refine wpAny_bind (wpAny_specialOf hT nolen_zip ?_)
  show wpAny _ A (specialOf (Value.ref z) (Str.ofString "__length_hint__") >>= _) _ _ _
  refine wpAny_bind (wpAny_specialOf hT nohint_zip ?_)
  exact wpAny_pure h
theorem ext_zip {R : Result → Shared → Prop} (hz : IsZip s.heap z TI TO .none) (S : Addr) (hSz : S ≠ z) (res : Value) (c₀ : Nat) (hS : s.heap.get? S = some { cls := .type "list", data := .seq #[] c₀ })
    (go : ∀ h' c', h'.get? S = some { cls := .type "list", data := .seq #[] c' } → (∀ b o, b ≠ S → s.heap.get? b = some o → h'.get? b = some o) → codeAny (model prog w) A (.builtin "list.extend.loop" ⟨[.ref S, .ref z, res], []⟩) R { s with heap := h' }) :
    wpAny (model prog w) A.in1 (Builtin.List.listExtendWith (.ref S) (.ref z) res)
      (fun fin s' => match fin with | .done f => R (.ok f) s' | .again c' => c'.quiet = true ∧ codeAny (model prog w) A c' R s') (fun e s' => R (.error e) s') s := by
  have hT : s.TypeIs (.ref z) "zip" := ⟨_, hz, rfl⟩
  have h1 : Builtin.List.listSameRef (.ref S) (.ref z) = false := by simp [Builtin.List.listSameRef, hSz]
  unfold Builtin.List.listExtendWith
  refine wpAny_bind (wpAny_typeOf hT ?_)
  rw [if_neg (by rw [h1]; decide)]
  refine wpAny_bind (wpAny_pyIter_zip hz ?_)
  refine wpAny_bind (wpAny_holding (hint_zip hz ?_))
  rw [if_pos (by rw [Bool.true_or])]
  refine wpAny_bind (wpAny_rule ?_)
  refine wpAny_bind ?_
  show wpAny _ _ (updateSeq S (·.push .none) >>= fun _ => updateSeq S (·.pop)) _ _ _
  refine wpAny_bind (wpAny_updateSeq hS rfl ?_)
  have hS₂ := Heap.get?_update_self (Obj.mapSeq (·.push Value.none)) hS rfl
  refine wpAny_updateSeq (hz := by seq_fits) hS₂ rfl ?_
  have hS₃ := Heap.get?_update_self (Obj.mapSeq (·.pop)) hS₂ rfl
  refine wpAny_pure ⟨plainId_quiet F.plain_extend_loop _, go _ _ hS₃ fun b o hb e => ?_⟩
  exact (Heap.get?_update_other _ _ (Ne.symm hb)).trans ((Heap.get?_update_other _ _ (Ne.symm hb)).trans e)
theorem init_zip {R : Result → Shared → Prop} (hz : IsZip s.heap z TI TO .none) (S : Addr) (hSz : S ≠ z) (hS : s.heap.get? S = some { cls := .type "list", data := .seq #[] })
    (go : ∀ h' c', h'.get? S = some { cls := .type "list", data := .seq #[] c' } → (∀ b o, b ≠ S → s.heap.get? b = some o → h'.get? b = some o) → codeAny (model prog w) A (.builtin "list.extend.loop" ⟨[.ref S, .ref z, .none], []⟩) R { s with heap := h' }) :
    wpAny (model prog w) A.in1 (Builtin.«list.__init__» ⟨[.ref S, .ref z], []⟩)
      (fun fin s' => match fin with | .done f => R (.ok f) s' | .again c' => c'.quiet = true ∧ codeAny (model prog w) A c' R s') (fun e s' => R (.error e) s') s := by
  show wpAny _ _ (do let old ← Builtin.List.listItems (.ref S); Builtin.List.listUpdate (.ref S) (fun _ => #[]); letGo old.toList.reverse; Builtin.List.listExtendWith (.ref S) (.ref z) .none) _ _ s
  refine wpAny_bind ?_
  unfold Builtin.List.listItems
  refine wpAny_bind (wpAny_seqItems hS rfl (wpAny_pure ?_))
  show wpAny _ _ (updateSeq S (fun _ => #[]) >>= fun _ => letGo (#[] : Array Value).toList.reverse >>= fun _ => Builtin.List.listExtendWith (.ref S) (.ref z) .none) _ _ s
  refine wpAny_bind (wpAny_updateSeq hS rfl ?_)
  have hS₂ := Heap.get?_update_self (Obj.mapSeq (fun _ => (#[] : Array Value))) hS rfl
  have oth : ∀ b o, b ≠ S → s.heap.get? b = some o → (s.heap.update S (Obj.mapSeq (fun _ => (#[] : Array Value)))).get? b = some o :=
    fun b o hb e => (Heap.get?_update_other _ _ (Ne.symm hb)).trans e
  refine wpAny_bind (wpAny_letGo ?_)
  exact ext_zip (oth _ _ hSz.symm hz) S hSz .none _ hS₂ fun h' c' h1 h2 => go h' c' h1 fun b o hb e => h2 b o hb (oth b o hb e)
theorem call_list_zip {Q : Value → Shared → Prop} (hz : IsZip s.heap z TI TO .none)
    (go : ∀ h' c', h'.get? s.heap.objs.size = some { cls := .type "list", data := .seq #[] c' } → (∀ b o, s.heap.get? b = some o → h'.get? b = some o) →
      codeAny (model prog w) A.in1 (.builtin "list.extend.loop" ⟨[.ref s.heap.objs.size, .ref z, .none], []⟩) (fun r s' => r = .ok (.ret .none) ∧ Q (.ref s.heap.objs.size) s') { s with heap := h' }) :
    wpAny (model prog w) A (call (.type "list") [.ref z]) Q E s := by
  refine callType_codes (Q₁ := fun obj s₁ => obj = .ref s.heap.objs.size ∧ s₁ = { s with heap := s.heap.push { cls := .type "list", data := .seq #[] } }) PySem.F.called_list (PySem.F.typeCall_list_1 _) PySem.F.entry_list_init
    (code_list_new _ ⟨rfl, rfl⟩) fun obj s₁ h₁ => ?_
  obtain ⟨rfl, rfl⟩ := h₁
  have hS : (s.heap.push { cls := .type "list", data := .seq #[] }).get? s.heap.objs.size = some { cls := .type "list", data := .seq #[] } := Heap.get?_push_size _ rfl
  refine ⟨⟨_, hS, rfl⟩, PySem.F.args_list_init_2 _ _, init_zip (A := A.in1) (Heap.get?_push_of_some _ hz) _ (Nat.ne_of_gt (Heap.lt_size hz)) hS fun h' c' h1 h2 => ?_⟩
  have g := go h' c' h1 fun b o e => h2 b o (Nat.ne_of_lt (Heap.lt_size e)) (Heap.get?_push_of_some _ e)
  refine codeAny_mono g fun r s' hr => ?_
  obtain ⟨e, q⟩ := hr
  subst e
  exact ⟨rfl, q⟩
end
/-- list(zip(a list, a tuple)), both of one length: a new list of new tuples -/
def tListZip (K : PySem.W.Frag) (ta : TA) : TE := fun σ H Q => ta σ H fun vs H1 => ∃ a b xs ys, vs = [.ref a, .ref b] ∧ SqL K H1 a xs ∧ SqT K H1 b ys ∧ ys.length = xs.length ∧ xs.length ≤ sizeLine ∧
  ∀ (q : Addr) (H' : Hp) (ps : List Addr), H1 q = none → (∀ b o, H1 b = some o → H' b = some o) → H' q = some (.lst (ps.map V.ref)) → ps.length = xs.length → (∀ (j : Nat) p, ps[j]? = some p → ∃ x y, xs[j]? = some x ∧ ys[j]? = some y ∧ H' p = some (.tup [x, y])) → Q (.ref q) H'
section
variable {X : Cx}
theorem pe_listZip {e e2 : Expr} {ta : TA} {p p2 pos pos2 : Pos} (hc : X.calm = true) (hg : Gl X "list") (hm : X.mg "list" = none) (hg2 : Gl X "zip") (hm2 : X.mg "zip" = none) (ha : PA X [e, e2] ta)
    (hs : starEach [e, e2] X.env = (false, eval e X.env) :: starEach [e2] X.env := by rfl) (hpl : (backTo pos2 (starEach [e2] X.env)).any (·.1) = false := by rfl)
    (hs2 : starEach [.Call (.Name "zip" p2) [e, e2] [] pos2] X.env = (false, eval (.Call (.Name "zip" p2) [e, e2] [] pos2) X.env) :: starEach [] X.env := by rfl) :
    PE X (.Call (.Name "list" p) [.Call (.Name "zip" p2) [e, e2] [] pos2] [] pos) (tListZip X.K ta) := by
  refine ⟨fun pins s σ H Q I h => ?_⟩
  refine Call_ (ld_blt I hg hm boot_list (PyProof.Rows.callWith_type1 (args_cons (Call_ (ld_blt I hg2 hm2 PyProof.Rows.boot_zip (PyProof.Rows.callWith_type1 (thn (ha.run pos2 pins s σ H _ I h) fun us s1 ⟨vs, H1, I1, r1, q1⟩ => ?_) hs hpl))) hs2) hs2 rfl))
  obtain ⟨a, b, xs, ys, ev, hqx, hqy, le, hn, q⟩ := q1
  subst ev
  obtain ⟨u1, u2, rfl, rx, ry⟩ := vals2 r1
  obtain rfl : u1 = Value.ref a := rx
  obtain rfl : u2 = Value.ref b := ry
  obtain ⟨its1, rv1, p1, hz1⟩ := I1.list hqx
  obtain ⟨its2, rv2, p2', hz2⟩ := I1.tuple hqy
  refine zip_begins2 (begins_list a its1.toArray) (begins_tuple b its2.toArray) p1.isList p2' fun h' hz hTI hTO g1 g2 hsz kk => args_nil ?_
  have hd := I1.ok.hd hc
  have I2 : Inv X pins σ H1 { s1 with heap := h' } := I1.kept (t' := s1.toks) kk
  refine call_list_zip (s := { s1 with heap := h' }) hz fun h2 c2 hS2 k2 => ?_
  replace hS2 : h2.get? h'.objs.size = some { cls := .type "list", data := .seq #[] c2 } := hS2
  have I3 : Inv X pins σ (upd H1 h'.objs.size (.lst [])) { s1 with heap := h2 } := I2.laid (t' := s1.toks) k2 (Nat.le_refl _) ⟨Nat.zero_le _, [], c2, .nil, hS2⟩
  obtain ⟨oa, hoa, _⟩ := id p1.isList
  obtain ⟨ob, hob, _⟩ := id p2'
  have la := Heap.lt_size hoa
  have lb := Heap.lt_size hob
  have nS : H1 h'.objs.size = none := I1.hok.fresh (by rw [hsz]; omega)
  have lS := Heap.lt_size hS2
  have five : ∀ c ∈ [s1.heap.objs.size + 4, s1.heap.objs.size + 2, s1.heap.objs.size + 3, s1.heap.objs.size, s1.heap.objs.size + 1], s1.heap.objs.size ≤ c ∧ c < s1.heap.objs.size + 5 := fun c hc => by
    simp only [List.mem_cons, List.not_mem_nil, or_false] at hc
    omega
  refine loop_zip (A := X.A.in1) (H0 := H1) (n := xs.length) (zip_sep2 (fp1 := [a]) (fp2 := [b]) (fun c hc => by rw [List.mem_singleton.mp hc]; exact la) (fun c hc => by rw [List.mem_singleton.mp hc]; exact lb))
    (Draws.list (A := X.A.in1.in1.in1) hd s1.heap.objs.size a (Nat.ne_of_lt la) its1.toArray) (Draws.tuple (A := X.A.in1.in1.in1) hd (s1.heap.objs.size + 1) b (Nat.ne_of_lt (Nat.lt_succ_of_lt lb)) its2.toArray) rv1 rv2 rfl le hn ?_ xs.length 0 _ _ [] (Nat.sub_zero _) (Nat.zero_le _) I3 (fun c hc => ?_) (fun c hc => ?_) (.inl ⟨k2 _ _ hz, _, _, k2 _ _ hTO⟩) (k2 _ _ hTI)
    ⟨⟨_, k2 _ _ g1, rfl, rfl⟩, (p1.isList.at fun o e => k2 _ _ (kk _ _ e))⟩ ⟨⟨_, k2 _ _ g2, rfl, rfl⟩, (show h2.IsTuple b its2.toArray from let ⟨o, e, r⟩ := p2'; ⟨o, k2 _ _ (kk _ _ e), r⟩)⟩ upd_same rfl (fun (j : Nat) (d : Addr) (e : ([] : List Addr)[j]? = some d) => absurd e (by simp)) (fun c o nb e => (upd_ne nb).trans e)
    fun s' H' ps' J hS' lp al kp => ⟨rfl, .ref h'.objs.size, H', J, rfl, q _ H' ps' nS (fun c o e => kp c o (ne_of_none e nS) e) hS' lp al⟩
  · have gt : ∀ c, c < s1.heap.objs.size + 5 → ¬ h'.objs.size = c := fun c l e => by
      rw [← hsz, e] at l
      exact Nat.lt_irrefl _ l
    simp only [List.mem_cons, List.mem_append, List.not_mem_nil, or_false, not_or]
    exact ⟨gt _ (Nat.add_lt_add_left (by decide) _), gt _ (Nat.add_lt_add_left (by decide) _), gt _ (Nat.add_lt_add_left (by decide) _), ⟨gt _ (Nat.lt_add_of_pos_right (by decide)), gt _ (Nat.lt_trans la (Nat.lt_add_of_pos_right (by decide)))⟩, gt _ (Nat.add_lt_add_left (by decide) _), gt _ (Nat.lt_trans lb (Nat.lt_add_of_pos_right (by decide)))⟩
  · obtain ⟨h1, h3⟩ := five c hc
    rw [← hsz] at h3
    exact I1.fpOk h1 ((upd_ne (Nat.ne_of_lt h3)).trans (I1.hok.fresh h1))
  · obtain ⟨h1, h3⟩ := five c hc
    rw [← hsz] at h3
    exact Nat.lt_trans h3 lS
end
end PSY

set_option Elab.async false
set_option linter.all false
set_option maxRecDepth 100000
set_option maxHeartbeats 4000000
/-! zip of three tuples -/
namespace PSY
open PySem PySem.Spec PyProof.Rows L2
def Itz3 (K : PySem.W.Frag) (a b c : Addr) (xs ys us : List V) : It :=
  ⟨fun i H => i < xs.length ∧ SqT K H a xs ∧ SqT K H b ys ∧ SqT K H c us, fun i H v H' => ∃ T x y u, v = .ref T ∧ H T = none ∧ H' = upd H T (.tup [x, y, u]) ∧ xs[i]? = some x ∧ ys[i]? = some y ∧ us[i]? = some u, fun i H => i = xs.length ∧ SqT K H a xs ∧ SqT K H b ys ∧ SqT K H c us⟩
theorem turn_zip3 {P : Program} {w : World} {K : PySem.W.Frag} {tg : List Expr} {m : Nat} {tp : Pos} {xs ys us : List V} {a b c z TI TO i1 i2 i3 : Addr} (Sp : ZipSep3 z TI TO i1 i2 i3 [i1, a] [i2, b] [i3, c]) (na : a ≠ i1) (nb : b ≠ i2) (nc : c ≠ i3) (l2 : ys.length = xs.length) (l3 : us.length = xs.length) :
    Turn P w K (.Tuple tg m tp) (Itz3 K a b c xs ys us) [z, TI, TO, i1, i2, i3] z (fun i h => IsZip h z TI TO .none ∧ IsTupOf3 h TI (.ref i1) (.ref i2) (.ref i3) ∧ (∃ a1 a2 a3, IsTupOf3 h TO a1 a2 a3) ∧ h.IsTupleIter i1 a i ∧ h.IsTupleIter i2 b i ∧ h.IsTupleIter i3 c i) where
  mem := by simp
  obj := fun i h st d hd => by
    obtain ⟨hz, hTI, ⟨a1, a2, a3, hTO⟩, ⟨o1, e1, _, d1⟩, ⟨o2, e2, _, d2⟩, ⟨o3, e3, _, d3⟩⟩ := st
    have which : d = z ∨ d = TI ∨ d = TO ∨ d = i1 ∨ d = i2 ∨ d = i3 := by simpa using hd
    rcases which with rfl | rfl | rfl | rfl | rfl | rfl
    · exact ⟨_, hz, fun v q => nomatch q⟩
    · exact ⟨_, hTI, fun v q => nomatch q⟩
    · exact ⟨_, hTO, fun v q => nomatch q⟩
    · exact ⟨o1, e1, fun v q => by rw [d1] at q; cases q⟩
    · exact ⟨o2, e2, fun v q => by rw [d2] at q; cases q⟩
    · exact ⟨o3, e3, fun v q => by rw [d3] at q; cases q⟩
  keep := fun i h h' st k => by
    obtain ⟨hz, hTI, ⟨a1, a2, a3, hTO⟩, h1, h2, h3⟩ := st
    exact ⟨k z (by simp) _ hz, k TI (by simp) _ hTI, ⟨a1, a2, a3, k TO (by simp) _ hTO⟩, h1.at fun o q => k i1 (by simp) o q, h2.at fun o q => k i2 (by simp) o q, h3.at fun o q => k i3 (by simp) o q⟩
  item := by
    intro X e1 e2 e3 calm i pins s σ H E I fp st go
    subst e1 e2 e3
    obtain ⟨lt, qa, qb, qc⟩ := go
    obtain ⟨hz, hTI, hTO, h1, h2, h3⟩ := st
    obtain ⟨its1, rv1, p1, hz1⟩ := I.tuple qa
    obtain ⟨its2, rv2, p2, hz2⟩ := I.tuple qb
    obtain ⟨its3, rv3, p3, hz3⟩ := I.tuple qc
    have hd := I.ok.hd calm
    have z1 : its1.toArray.size = xs.length := by rw [List.size_toArray, ← rv1.length]
    have z2 : its2.toArray.size = xs.length := by rw [List.size_toArray, ← rv2.length, l2]
    have z3 : its3.toArray.size = xs.length := by rw [List.size_toArray, ← rv3.length, l3]
    have W := GoesN.zip3 (prog := X.prog) (w := X.w) (A := X.A) (elts := tg) (x1 := m) (pos := tp) Sp (Draws.tuple (A := X.A.in1) hd i1 a na its1.toArray) (Draws.tuple (A := X.A.in1) hd i2 b nb its2.toArray) (Draws.tuple (A := X.A.in1) hd i3 c nc its3.toArray)
    have hx : xs[i]? = some xs[i] := List.getElem?_eq_getElem lt
    have hy : ys[i]? = some ys[i] := List.getElem?_eq_getElem (by omega)
    have hu : us[i]? = some us[i] := List.getElem?_eq_getElem (by omega)
    obtain ⟨w1, hw1, rw1⟩ := rv1.get hx
    obtain ⟨w2, hw2, rw2⟩ := rv2.get hy
    obtain ⟨w3, hw3, rw3⟩ := rv3.get hu
    have low : ∀ d ∈ [z, TI, TO, i1, i2, i3], d < s.heap.objs.size := fun d hd => by
      obtain ⟨a1, a2, a3, hTO⟩ := hTO
      obtain ⟨o1, q1, _⟩ := h1
      obtain ⟨o2, q2, _⟩ := h2
      obtain ⟨o3, q3, _⟩ := h3
      have which : d = z ∨ d = TI ∨ d = TO ∨ d = i1 ∨ d = i2 ∨ d = i3 := by simpa using hd
      rcases which with rfl | rfl | rfl | rfl | rfl | rfl
      · exact Heap.lt_size hz
      · exact Heap.lt_size hTI
      · exact Heap.lt_size hTO
      · exact Heap.lt_size q1
      · exact Heap.lt_size q2
      · exact Heap.lt_size q3
    refine W.goes i s _ E (by rw [z1, z2, z3, Nat.min_self, Nat.min_self]; exact lt) ⟨hz, hTI, hTO, ⟨h1, p1⟩, ⟨h2, p2⟩, ⟨h3, p3⟩⟩ fun v h' tk hY st' kk _ => ?_
    obtain ⟨T, x, y, u, rfl, hnew, hp1, hp2, hp3, hT⟩ := hY
    obtain ⟨hz', hTI', hTO', ⟨h1', _⟩, ⟨h2', _⟩, ⟨h3', _⟩⟩ := st'
    have e1 : w1 = x := Option.some.inj (hw1.symm.trans (by simpa using hp1))
    have e2 : w2 = y := Option.some.inj (hw2.symm.trans (by simpa using hp2))
    have e3 : w3 = u := Option.some.inj (hw3.symm.trans (by simpa using hp3))
    subst e1 e2 e3
    have new : ObjOk X.prog X.w (upd H T (.tup [xs[i], ys[i], us[i]])) h' T (.tup [xs[i], ys[i], us[i]]) :=
      ⟨by show 3 ≤ sizeLine; decide, _, .cons rw1 (.cons rw2 (.cons rw3 .nil)), hT⟩
    have J := I.turnedNew (t' := tk) (ch := [z, TI, TO, i1, i2, i3]) (fun d o n q => kk d o (fun m => n (by
      simp only [List.mem_cons, List.not_mem_nil, or_false] at m ⊢
      rcases m with m | m | m | m | m
      · exact .inl m
      · exact .inr (.inr (.inl m))
      · exact .inr (.inr (.inr (.inl m)))
      · exact .inr (.inr (.inr (.inr (.inl m))))
      · exact .inr (.inr (.inr (.inr (.inr m)))))) q) fp hnew new
    refine ⟨.ref T, _, J, rfl, ⟨T, _, _, _, rfl, I.hok.fresh hnew, rfl, hx, hy, hu⟩, ⟨hz', hTI', hTO', h1', h2', h3'⟩, fun d hd => ?_⟩
    rw [upd_ne (Nat.ne_of_lt (Nat.lt_of_lt_of_le (low d hd) hnew))]
    exact (fp d hd).1
  done := by
    intro X e1 e2 e3 calm i pins s σ H E I fp st stop
    subst e1 e2 e3
    obtain ⟨rfl, qa, qb, qc⟩ := stop
    obtain ⟨hz, hTI, hTO, h1, h2, h3⟩ := st
    obtain ⟨its1, rv1, p1, hz1⟩ := I.tuple qa
    obtain ⟨its2, rv2, p2, hz2⟩ := I.tuple qb
    obtain ⟨its3, rv3, p3, hz3⟩ := I.tuple qc
    have hd := I.ok.hd calm
    have z1 : its1.toArray.size = xs.length := by rw [List.size_toArray, ← rv1.length]
    have z2 : its2.toArray.size = xs.length := by rw [List.size_toArray, ← rv2.length, l2]
    have z3 : its3.toArray.size = xs.length := by rw [List.size_toArray, ← rv3.length, l3]
    have W := GoesN.zip3 (prog := X.prog) (w := X.w) (A := X.A) (elts := tg) (x1 := m) (pos := tp) Sp (Draws.tuple (A := X.A.in1) hd i1 a na its1.toArray) (Draws.tuple (A := X.A.in1) hd i2 b nb its2.toArray) (Draws.tuple (A := X.A.in1) hd i3 c nc its3.toArray)
    rw [z1, z2, z3, Nat.min_self, Nat.min_self] at W
    refine W.stops s _ E ⟨hz, hTI, hTO, ⟨h1, p1⟩, ⟨h2, p2⟩, ⟨h3, p3⟩⟩ fun h' tk kk _ => ?_
    exact I.turnedL (t' := tk) (ch := [z, TI, TO, i1, i2, i3]) (fun d o n q => kk d o (fun m => n (by
      simp only [List.mem_cons, List.not_mem_nil, or_false] at m ⊢
      rcases m with m | m | m | m | m
      · exact .inl m
      · exact .inr (.inr (.inl m))
      · exact .inr (.inr (.inr (.inl m)))
      · exact .inr (.inr (.inr (.inr (.inl m))))
      · exact .inr (.inr (.inr (.inr (.inr m)))))) q) fp
  self := fun A i s Q E st h => wpAny_pyIter_zip st.1 h
def iZip3 (K : PySem.W.Frag) (ta : TA) : TI := fun σ H R => ta σ H fun vs H1 => ∃ a b c xs ys us, vs = [.ref a, .ref b, .ref c] ∧ SqT K H1 a xs ∧ SqT K H1 b ys ∧ SqT K H1 c us ∧ ys.length = xs.length ∧ us.length = xs.length ∧ R (Itz3 K a b c xs ys us) H1
theorem pi_zip3 {X : Cx} {e e2 e3 : Expr} {ta : TA} {p pos tp : Pos} {tg : List Expr} {n : Nat} (hg : Gl X "zip") (hm : X.mg "zip" = none) (ha : PA X [e, e2, e3] ta)
    (se : starEach [e, e2, e3] X.env = (false, eval e X.env) :: starEach [e2, e3] X.env := by rfl) (sn : (backTo pos (starEach [e2, e3] X.env)).any (·.1) = false := by rfl) :
    PI X (.Tuple tg n tp) (.Call (.Name "zip" p) [e, e2, e3] [] pos) (iZip3 X.K ta) := by
  refine ⟨fun pins s σ H R I h => ?_⟩
  refine PyProof.Rows.Call_ (ld_blt I hg hm PyProof.Rows.boot_zip (PyProof.Rows.callWith_type1 (thn (ha.run pos pins s σ H _ I h) fun us s1 ⟨vs, H1, I1, r1, q1⟩ => ?_) se sn))
  obtain ⟨a, b, c, xs, ys, zs, ev, qa, qb, qc, l2, l3, q⟩ := q1
  subst ev
  obtain ⟨u1, u2, u3, rfl, ra, rb, rc⟩ : ∃ u1 u2 u3, us = [u1, u2, u3] ∧ RelV (.ref a) u1 ∧ RelV (.ref b) u2 ∧ RelV (.ref c) u3 := by
    cases r1 with
    | cons ra r1 =>
      cases r1 with
      | cons rb r1 =>
        cases r1 with
        | cons rc r1 =>
          cases r1
          exact ⟨_, _, _, rfl, ra, rb, rc⟩
  obtain rfl : u1 = Value.ref a := ra
  obtain rfl : u2 = Value.ref b := rb
  obtain rfl : u3 = Value.ref c := rc
  obtain ⟨its1, rv1, p1, hz1⟩ := I1.tuple qa
  obtain ⟨its2, rv2, p2, hz2⟩ := I1.tuple qb
  obtain ⟨its3, rv3, p3, hz3⟩ := I1.tuple qc
  obtain ⟨oa, hoa, _⟩ := id p1
  obtain ⟨ob, hob, _⟩ := id p2
  obtain ⟨oc, hoc, _⟩ := id p3
  have la := Heap.lt_size hoa
  have lb := Heap.lt_size hob
  have lc := Heap.lt_size hoc
  refine zip_begins3 (begins_tuple a its1.toArray) (begins_tuple b its2.toArray) (begins_tuple c its3.toArray) p1 p2 p3 fun g hz hTI hTO g1 g2 g3 hsz k => wpAny_pyIter_zip hz ?_
  have I2 : Inv X pins σ H1 { s1 with heap := g } := I1.kept (t' := s1.toks) k
  refine ⟨s1.heap.objs.size + 5, [s1.heap.objs.size + 5, s1.heap.objs.size + 3, s1.heap.objs.size + 4, s1.heap.objs.size, s1.heap.objs.size + 1, s1.heap.objs.size + 2], _, _, H1, rfl, I2,
    turn_zip3 (zip_sep3 (fp1 := [a]) (fp2 := [b]) (fp3 := [c]) (fun d hd => by rw [List.mem_singleton.mp hd]; exact la) (fun d hd => by rw [List.mem_singleton.mp hd]; exact lb) (fun d hd => by rw [List.mem_singleton.mp hd]; exact lc)) (Nat.ne_of_lt la) (Nat.ne_of_lt (Nat.lt_succ_of_lt lb)) (Nat.ne_of_lt (Nat.lt_succ_of_lt (Nat.lt_succ_of_lt lc))) l2 l3,
    ⟨hz, hTI, ⟨_, _, _, hTO⟩, ⟨_, g1, rfl, rfl⟩, ⟨_, g2, rfl, rfl⟩, ⟨_, g3, rfl, rfl⟩⟩, fun d m => ?_, q⟩
  have le : s1.heap.objs.size ≤ d := by
    simp only [List.mem_cons, List.not_mem_nil, or_false] at m
    rcases m with z | z | z | z | z | z
    · exact z ▸ Nat.le_add_right _ _
    · exact z ▸ Nat.le_add_right _ _
    · exact z ▸ Nat.le_add_right _ _
    · exact z ▸ Nat.le_refl _
    · exact z ▸ Nat.le_add_right _ _
    · exact z ▸ Nat.le_add_right _ _
  exact I1.fpOk le (I1.hok.fresh le)
/-- a loop over the triples of three tuples -/
theorem for_zip3 {K : PySem.W.Frag} {a b c : Addr} {xs ys us : List V} {g : TG} {tb : TS} {D : Ends} {σ : L2.St} {H : Hp} (l2 : ys.length = xs.length) (l3 : us.length = xs.length) (Pv : Nat → L2.St → Hp → Prop) (h0 : Pv 0 σ H) (hl : ∀ i σ H, Pv i σ H → SqT K H a xs ∧ SqT K H b ys ∧ SqT K H c us)
    (hs : ∀ (i : Nat) (x y u : V) (T : Addr) (σ : L2.St) (H : Hp), xs[i]? = some x → ys[i]? = some y → us[i]? = some u → Pv i σ H → H T = none → g (.ref T) σ (upd H T (.tup [x, y, u])) fun σ2 H2 => tb { D with nx := Pv (i + 1), ct := Pv (i + 1), bk := D.nx } σ2 H2)
    (hd : ∀ σ H, Pv xs.length σ H → D.nx σ H) :
    ∃ W : Nat → Nat → L2.St → Hp → Prop, (∃ m, W 0 m σ H) ∧ ∀ i m σ H, W i m σ H →
      ((Itz3 K a b c xs ys us).stop i H ∧ D.nx σ H) ∨ ((Itz3 K a b c xs ys us).go i H ∧ ∃ N : L2.St → Hp → Prop, (∀ σ' H', N σ' H' → ∃ m', m' < m ∧ W (i + 1) m' σ' H') ∧ ∀ v H', (Itz3 K a b c xs ys us).yld i H v H' → g v σ H' fun σ2 H2 => tb { D with nx := N, ct := N, bk := D.nx } σ2 H2) := by
  refine ⟨fun i m σ H => m = xs.length - i ∧ i ≤ xs.length ∧ Pv i σ H, ⟨xs.length, rfl, Nat.zero_le _, h0⟩, ?_⟩
  rintro i m σ H ⟨rfl, le, p⟩
  obtain ⟨q1, q2, q3⟩ := hl i σ H p
  by_cases lt : i < xs.length
  · refine .inr ⟨⟨lt, q1, q2, q3⟩, Pv (i + 1), fun σ' H' p' => ⟨xs.length - (i + 1), by omega, rfl, lt, p'⟩, fun v H' yl => ?_⟩
    obtain ⟨T, x, y, u, rfl, hT, rfl, e1, e2, e3⟩ := yl
    exact hs i x y u T σ H e1 e2 e3 p hT
  · obtain rfl : i = xs.length := by omega
    exact .inl ⟨⟨rfl, q1, q2, q3⟩, hd σ H p⟩
end PSY

set_option Elab.async false
set_option linter.all false
set_option maxRecDepth 100000
set_option maxHeartbeats 4000000
/-! l.remove(x) where things are compared deep -/
namespace PSY
open PySem PySem.Spec PyProof.Rows L2
def rRemoveD (K : PySem.W.Frag) : V → List V → Hp → VK → Prop := fun x xs H Q => ∃ (a : Addr) (y : V) (vs : List V) (d : PyData) (ds : List PyData) (j : Nat) (z : PyData), x = V.ref a ∧ xs = [y] ∧ H a = some (.lst vs) ∧ DpAll K H vs ds ∧ Dp K H y d ∧
  SeqAt.shaped (.list ds) = true ∧ SeqAt.shaped d = true ∧ ds[j]? = some z ∧ PyData.eqv z d = true ∧ (∀ (m : Nat) (z' : PyData), m < j → ds[m]? = some z' → PyData.eqv z' d = false) ∧ Q .non (upd H a (.lst (vs.eraseIdx j)))
section
variable {X : Cx}
theorem mt_removeD (hu : X.A.units + 65 < cLine) : MtM X "list.remove" (rRemoveD X.K) := by
  intro pins s σ H x xs v us Q I rx rxs h
  obtain ⟨a, y, vs, d, ds, j, z, rfl, rfl, hH, ha, hy, sl, sd, hz, hzj, hno, q⟩ := h
  cases rx
  cases rxs with
  | cons ry rt =>
    rename_i uy ut
    cases rt
    obtain ⟨bs, r1⟩ := Dp.reads I d y uy hy ry
    have hxs : PyData.canLayAll0 ds = true := SeqAt.canLay_of_shaped sl
    have hroom : X.A.units + 1 + min (PyData.depthAll ds) d.depth < cLine := room_in_shaped sd hu
    obtain ⟨zz, its, n, rv, hlen, ho⟩ := I.lstM hH
    obtain ⟨as, h4⟩ := Dp.readsAll I ds _ its ha rv
    have hn : its.length = ds.length := SeqAt.ReadsAll.length ds its as h4
    have hmap : its.map (SeqAt.readOf s.heap) = ds := SeqAt.readsAll_map ds its as hxs h4
    have hvl := rv.length
    have hsl := sizeLine_eq
    obtain ⟨hjd, _⟩ := List.getElem?_eq_some_iff.mp hz
    have hjl : j < its.length := by omega
    have hj : j < its.toArray.size := by simpa using hjl
    have hsz : its.toArray.size ≤ sizeLine := by rw [List.size_toArray, ← hlen]; exact zz
    have at_ : ∀ (m : Nat) (hm : m < its.toArray.size) (z' : PyData), ds[m]? = some z' → SeqAt.readOf s.heap its.toArray[m] = z' := by
      intro m hm z' hz'
      have hml : m < its.length := by simpa using hm
      rw [← hmap, List.getElem?_map, List.getElem?_eq_getElem hml] at hz'
      have e1 : SeqAt.readOf s.heap its[m] = z' := Option.some.inj (show some (SeqAt.readOf s.heap its[m]) = some z' from hz')
      simpa using e1
    refine call_meets PySem.F.slot_list_remove ⟨_, ho, rfl⟩ PySem.F.entry_list_remove (PySem.F.args_list_remove_2 _ _)
      (SeqAt.list_removeAt a its.toArray n _ _ uy (fun u => PyData.eqv (SeqAt.readOf s.heap u) d) j hj ?_ ?_ hsz) ⟨ho, SeqAt.items_eqAt (vs := its.toArray) (show ReadsAll s.heap its.toArray.toList ds as from h4) r1 hxs (SeqAt.canLay_of_shaped sd) hroom, ?_⟩
    · show PyData.eqv (SeqAt.readOf s.heap its.toArray[j]) d = true
      rw [at_ j hj z hz]
      exact hzj
    · intro m hm hmj
      have hmd : m < ds.length := by omega
      have hz' : ds[m]? = some ds[m] := List.getElem?_eq_getElem hmd
      show PyData.eqv (SeqAt.readOf s.heap its.toArray[m]) d = false
      rw [at_ m hm _ hz']
      exact hno m _ hmj hz'
    · refine ⟨.non, _, I.lset (its' := its.eraseIdx j) hH ho ?_ (rv.eraseIdx j) ?_, rfl, q⟩
      · show its.toArray.eraseIdxIfInBounds j = (its.eraseIdx j).toArray
        rw [List.eraseIdxIfInBounds_toArray]
      · have := len_erase vs j
        omega
end
end PSY

set_option Elab.async false
set_option linter.all false
set_option maxRecDepth 100000
set_option maxHeartbeats 4000000
/-! generator defs with defaults; `for` in them over a list -/
namespace PSY
open PySem PySem.Spec PyProof.Rows L2 GenW
section
variable {P : Program} {w : World} {K : PySem.W.Frag} {mg : Str → Option Value} {base : Heap} {x qual : Str} {params : Arguments} {body : List Stmt} {scope : Scope} {dvs : List V} {kws : List (Str × V)} {f : Addr} {fd : FuncData}
theorem gok {N ps : List Str} {k : Nat} {sp : SpG} (F : FunD K x qual params body scope dvs kws f fd) (S : GScope N ps scope) (len : ∀ vs H Q E, sp vs H Q E → vs.length = ps.length)
    (hbody : ∀ (cdv : Value) (A : Around) (outer : List Env) (s : Shared) (H : Hp) (vs : List V) (Q : List V → Hp → Prop) (E : XK) (pn : List (Addr × Obj)), Room k (A.deeper (envOfC qual scope s.heap.objs.size f cdv)) → sp vs H Q E →
      ∃ t, GSs (gcxOf P w K mg base N qual scope f cdv A outer s H E pn) body t ∧ t { nx := fun ys _ H' => Q ys H', rt := fun ys v H' => v = .non ∧ Q ys H' } [] (start N vs) H) : GFn P w K mg base (k + 1) f fd ps sp := by
  obtain ⟨oc, od, dV, kV, doc, pm, an, cdv, ct, osl, rfl, lk, hcd, _, _⟩ := F.ex
  exact gfn_of lk hcd S len fun A outer s H vs Q E pn hr hsp => hbody cdv A outer s H vs Q E pn hr hsp
theorem gfor_list {a : Addr} {xs : List V} {g : TG} {tb : TGn} {D : GEnds} {ys : List V} {σ : L2.St} {H1 : Hp} (Pv : Nat → List V → L2.St → Hp → Prop) (h0 : Pv 0 ys σ H1) (hl : ∀ i ys σ H, i ≤ xs.length → Pv i ys σ H → SqL K H a xs)
    (hs : ∀ i x ys σ H, xs[i]? = some x → Pv i ys σ H → g x σ H fun σ2 H2 => tb { D with nx := Pv (i + 1), ct := Pv (i + 1), bk := D.nx } ys σ2 H2) (hd : ∀ ys σ H, Pv xs.length ys σ H → D.nx ys σ H) :
    ∃ W : Nat → Nat → List V → L2.St → Hp → Prop, (∃ m, W 0 m ys σ H1) ∧ ∀ i m ys σ H, W i m ys σ H →
      ((Itl K a).stop i H ∧ D.nx ys σ H) ∨ ((Itl K a).go i H ∧ ∃ N : List V → L2.St → Hp → Prop, (∀ ys' σ' H', N ys' σ' H' → ∃ m', m' < m ∧ W (i + 1) m' ys' σ' H') ∧ ∀ x H', (Itl K a).yld i H x H' → g x σ H' fun σ2 H2 => tb { D with nx := N, ct := N, bk := D.nx } ys σ2 H2) := by
  refine ⟨fun i m ys σ H => m = xs.length - i ∧ i ≤ xs.length ∧ Pv i ys σ H, ⟨_, rfl, Nat.zero_le _, h0⟩, ?_⟩
  rintro i m ys σ H ⟨rfl, le, p⟩
  have q := hl i ys σ H le p
  by_cases lt : i < xs.length
  · refine .inr ⟨⟨xs, xs[i], q, by simp [lt]⟩, Pv (i + 1), fun ys' σ' H' p' => ⟨_, by omega, rfl, lt, p'⟩, fun x H' y => ?_⟩
    obtain ⟨rfl, y⟩ := y
    exact hs i x ys σ _ (y xs q) p
  · obtain rfl : i = xs.length := by omega
    exact .inl ⟨⟨xs, q, Nat.le_refl _⟩, hd ys σ H p⟩
end
theorem hu65 {A : Around} {k : Nat} (hr : Room k A) : A.units + 65 < cLine := by
  have := hr.un
  omega
theorem op_notB {X : Cx} : OpR X (compareOp .IsNot) (fun x y H Q => ∃ b c, x = .bl b ∧ y = .bl c ∧ Q (.bl (!(b == c))) H) := by
  intro pins s σ H x y v u Q I rx ry h
  obtain ⟨b, c, rfl, rfl, q⟩ := h
  cases rx
  cases ry
  refine wpAny_isNot_plain (by cases b <;> cases c <;> rfl) ⟨.bl _, H, I, ?_, q⟩
  cases b <;> cases c <;> rfl
theorem passG0 {X : Cx} : Passes (L2.CX X.prog X.w) X E0 := fun _ _ _ _ _ _ _ h => by
  obtain ⟨_, _, _, _, _, _, _, _, _, _, _, _, z⟩ := h
  exact z.elim
theorem nostop0 {K : PySem.W.Frag} : NoStop K E0 := fun _ _ _ h => h.elim
/-- the ways of a statement meet in W -/
def tGCut (W : L2.St → Hp → Prop) (t u : TGn) : TGn := fun D ys σ H => t { D with nx := fun ys' σ' H' => ys' = ys ∧ W σ' H' } ys σ H ∧ ∀ σ' H', W σ' H' → u D ys σ' H'
theorem gss_cut {X : Cx} {st : Stmt} {rest : List Stmt} {t u : TGn} (W : L2.St → Hp → Prop) (a : GS X st t) (b : GSs X rest u) : GSs X (st :: rest) (tGCut W t u) := by
  refine ⟨fun A S ip R n ys s₀ c fs K J gd lv s σ H D g hn k hI ht => ?_⟩
  obtain ⟨ht, hu⟩ := ht
  refine seg_execs_cons ?_
  refine a.run A S ip R n ys s₀ c fs _ J gd lv s σ H { D with nx := fun ys' σ' H' => ys' = ys ∧ W σ' H' } g hn ⟨fun n' ys' s₀' s' f hn' hs => ?_, k.exc⟩ hI ht
  cases f with
  | next =>
    obtain ⟨σ', H', I', e, q⟩ := hs
    subst e
    exact b.run A S ip R n' _ s₀' c fs K J gd lv s' σ' H' D g hn' k I' (hu σ' H' q)
  | brk => exact k.ok n' ys' s₀' s' .brk hn' hs
  | cont => exact k.ok n' ys' s₀' s' .cont hn' hs
  | ret u => exact k.ok n' ys' s₀' s' (.ret u) hn' hs
end PSY

set_option Elab.async false
set_option linter.all false
set_option maxRecDepth 100000
set_option maxHeartbeats 8000000
namespace K19
open PySem PySem.Spec L2 PSG PSS
open PyProof.Rows (IntsAre AllBare)
def topS (i : Nat) : Stmt := PySem.Challenge.pw_pairsigns_k19_whole_signs_orders_togethe.main.body.getD i (.Pass ⟨0, 0, 0, 0⟩)
abbrev s__law_pot : Stmt := topS 48
theorem sc__law_pot : FnScope ["_law_script", "_law_k", "_law_cell"] ["_law_script", "_law_k"] (defScope s__law_pot) := ⟨rfl, rfl, rfl, by decide +kernel, rfl, by decide +kernel, by decide +kernel⟩
abbrev s__law_draw : Stmt := topS 49
theorem sc__law_draw : FnScope ["_law_pot_here", "_law_many", "_law_digit"] ["_law_pot_here", "_law_many"] (defScope s__law_draw) := ⟨rfl, rfl, rfl, by decide +kernel, rfl, by decide +kernel, by decide +kernel⟩
structure Blt (mg : Str → Option Value) : Prop where
  n_len : mg "len" = none
  n_max : mg "max" = none
  n_min : mg "min" = none
  n_abs : mg "abs" = none
  n_int : mg "int" = none
  n_divmod : mg "divmod" = none
  n_range : mg "range" = none
  n_isinstance : mg "isinstance" = none
  n_repr : mg "repr" = none
  n_all : mg "all" = none
  n_bool : mg "bool" = none
  n_str : mg "str" = none
  n_set : mg "set" = none
  n_sorted : mg "sorted" = none
  n_enumerate : mg "enumerate" = none
  n_zip : mg "zip" = none
  n_reversed : mg "reversed" = none
  n_dict : mg "dict" = none
  n_list : mg "list" = none
  n_tuple : mg "tuple" = none
def Pt (H : Hp) (r : Addr) : Prop := ∃ x y : Int, H r = some (.lst [.int x, .int y]) ∧ 0 ≤ x ∧ 0 ≤ y ∧ y < 2147483700
theorem Pt.some {H : Hp} {r : Addr} (g : Pt H r) : ∃ o, H r = some o := by
  obtain ⟨x, y, e, _⟩ := g
  exact ⟨_, e⟩
theorem Pt.new {H : Hp} {r p : Addr} {o : HO} (g : Pt H r) (h : H p = none) : Pt (upd H p o) r := by
  obtain ⟨x, y, e, z⟩ := g
  exact ⟨x, y, (upd_ne (ne_of_none e h)).trans e, z⟩
theorem Pt.same {H H' : Hp} {r : Addr} (g : Pt H r) (s : Same H H') : Pt H' r := by
  obtain ⟨x, y, e, z⟩ := g
  exact ⟨x, y, s _ _ e, z⟩
theorem Pt.put {H : Hp} {r p : Addr} {o : HO} (g : Pt H r) (n : p ≠ r) : Pt (upd H p o) r := by
  obtain ⟨x, y, e, z⟩ := g
  exact ⟨x, y, (upd_ne (Ne.symm n)).trans e, z⟩
theorem Pt.off {H : Hp} {r p : Addr} (g : Pt H r) (h : H p = none) : p ≠ r := fun z => by
  obtain ⟨o, e⟩ := g.some
  rw [z, e] at h
  cases h
theorem pylong_no {i j : Int} (h0 : 0 < j) (h : j < 2 ^ 200) : CDivP i j := by
  refine ⟨h0, ?_⟩
  have lg : j.natAbs.log2 < 200 := PySem.Flt.log2_lt_of (by decide) (by omega)
  unfold Builtin.divisionGoesByPylong
  have small : ¬ (300 < if (j == 0) = true then 0 else j.natAbs.log2 / 30 + 1) := by split <;> omega
  exact Bool.and_eq_false_iff.mpr (.inl (decide_eq_false small))
section
variable {P : Program} {w : World} {K : PySem.W.Frag} {mg : Str → Option Value} {base : Heap}
def spPot (K : PySem.W.Frag) : Sp := fun vs H Q _ => ∃ (a : Addr) (ns : List Int) (k : Nat), vs = [.ref a, .int k] ∧ SqL K H a (ns.map V.int) ∧ k ≤ 1000 ∧ ∀ p x y, H p = none → (0 : Int) ≤ x → 0 ≤ y → y < 2147483700 → Q (.ref p) (upd H p (.lst [.int x, .int y]))
theorem ok_pot {f : Addr} {fd : FuncData} (F : Fun K "_law_pot" "_law_pot" s__law_pot f fd) (T : Blt mg) : FnOk P w K mg base CX0 1 f fd ["_law_script", "_law_k"] (spPot K) := by
  have sc := sc__law_pot
  refine F.ok sc (fun vs H Q E h => ?_) (fun cdv A outer s H vs Q E hr h => ?_)
  · obtain ⟨a, ns, k, rfl, _⟩ := h
    rfl
  · obtain ⟨a, ns, k, rfl, hS, hk, q⟩ := h
    refine ⟨_, (pss_cons (ps_set (i := 2) sc.nd rfl (.inl rfl) (pe_ifExp (pt_cmpR op_lt (pv 1) (pe_callB call_len_seq (by rfl) T.n_len PySem.boot_len (pa_cons (pv 0) pa_nil)) (nomark _)) (pe_ix ix_list (pv 0) (pv 1) (fun _ _ => rfl)) pe_int))
      (pss_one (ps_ret (pe_lst (pa_cons (pe_callB (call_max2 rfl) (by rfl) T.n_max (by decide +kernel) (pa_cons pe_int (pa_cons (pe_op op_sub (pe_callB call_abs (by rfl) T.n_abs (by decide +kernel) (pa_cons (pv 2) pa_nil)) (pe_op op_pow pe_int pe_int)) pa_nil))) (pa_cons (pe_op op_add (pe_op op_mod (pe_callTy call_int1 (by rfl) T.n_int (by decide +kernel) (pa_cons (pe_op op_add (pe_op op_add (pe_op op_mul (pe_op op_mod (pe_callTy call_int1 (by rfl) T.n_int (by decide +kernel) (pa_cons (pe_callB call_abs (by rfl) T.n_abs (by decide +kernel) (pa_cons (pv 2) pa_nil)) pa_nil)) pe_int) pe_int) (pe_op op_mul pe_int (pv 1))) pe_int) pa_nil)) pe_int) pe_int) pa_nil)))))), ?_⟩
    have rest : ∀ c : Int, ∃ x y : Int, True := fun c => ⟨0, 0, trivial⟩
    refine ⟨_, rfl, _, rfl, a, _, rfl, .inl hS, _, _, rfl, rfl, _, rfl, ite2 (fun e => ?_) (fun e => ?_)⟩
    · have lt : k < (ns.map V.int).length := by
        have e1 := of_decide_eq_true e
        omega
      rw [List.length_map] at lt
      have at_ : (ns.map V.int)[k]? = some (.int ns[k]) := by
        rw [List.getElem?_map, List.getElem?_eq_getElem lt]
        rfl
      refine ⟨_, rfl, _, rfl, a, _, _, _, rfl, rfl, hS, atI_nat at_, ?_⟩
      refine ⟨_, rfl, _, rfl, _, _, rfl, rfl, ⟨by decide, by decide, by decide⟩, _, _, rfl, rfl, _, _, rfl, _, rfl, _, rfl, .inl ⟨_, rfl, _, _, rfl, rfl, (by show (0 : Int) < _; decide), _, _, rfl, rfl, .inr ⟨by decide, by decide⟩, _, rfl, _, _, rfl, rfl, .inl ⟨by decide, by decide⟩, _, _, rfl, rfl, _, _, rfl, rfl, .inl ⟨_, rfl, _, _, rfl, rfl, (by show (0 : Int) < _; decide), _, _, rfl, rfl, (by show 2 ≤ sizeLine; decide), fun p hp => ?_⟩⟩⟩
      exact q p _ _ hp (by split <;> omega) (by omega) (by omega)
    · refine ⟨_, rfl, _, rfl, _, _, rfl, rfl, ⟨by decide, by decide, by decide⟩, _, _, rfl, rfl, _, _, rfl, _, rfl, _, rfl, .inl ⟨_, rfl, _, _, rfl, rfl, (by show (0 : Int) < _; decide), _, _, rfl, rfl, .inr ⟨by decide, by decide⟩, _, rfl, _, _, rfl, rfl, .inl ⟨by decide, by decide⟩, _, _, rfl, rfl, _, _, rfl, rfl, .inl ⟨_, rfl, _, _, rfl, rfl, (by show (0 : Int) < _; decide), _, _, rfl, rfl, (by show 2 ≤ sizeLine; decide), fun p hp => ?_⟩⟩⟩
      exact q p _ _ hp (by split <;> omega) (by omega) (by omega)
def nx (y : Int) : Int := (y * 39373 + 12227) % 2147483629
theorem nx_lo (y : Int) : 0 ≤ nx y := Int.emod_nonneg _ (by decide)
theorem nx_hi (y : Int) : nx y < 2147483629 := Int.emod_lt_of_pos _ (by decide)
/-- a draw below m -/
def spDraw : Sp := fun vs H Q _ => ∃ (r : Addr) (m : Int), vs = [.ref r, .int m] ∧ Pt H r ∧ 0 < m ∧ m < 2 ^ 200 ∧ ∀ d H', (0 : Int) ≤ d → d < m → Pt H' r → But r H H' → Q (.int d) H'
theorem ok_draw {f : Addr} {fd : FuncData} (F : Fun K "_law_draw" "_law_draw" s__law_draw f fd) (T : Blt mg) : FnOk P w K mg base CX0 1 f fd ["_law_pot_here", "_law_many"] spDraw := by
  have sc := sc__law_draw
  refine F.ok sc (fun vs H Q E h => ?_) (fun cdv A outer s H vs Q E hr h => ?_)
  · obtain ⟨r, m, rfl, _⟩ := h
    rfl
  · obtain ⟨r, m, rfl, ⟨x, y, hR, hx, hy, hy2⟩, hm, hm2, q⟩ := h
    have hS : SqL K H r [.int x, .int y] := SqL.of hR
    refine ⟨_, (pss_cons (ps_if (pt_cmpR op_gt (pe_ix ix_list (pv 0) pe_int (fun _ _ => rfl)) pe_int (nomark _)) (pss_cons (ps_asg (pe_callB call_divmodW (by rfl) T.n_divmod (by decide +kernel) (pa_cons (pe_ix ix_list (pv 0) pe_int (fun _ _ => rfl)) (pa_cons (pv 1) pa_nil))) (pg_tup (by rfl) (pgs_cons (pg_sub (pv 0) pe_int set_list) (pgs_cons (pg_name (i := 2) sc.nd rfl (.inl rfl)) pgs_nil))))
      (pss_one (ps_ret (pv 2)))) pss_nil)
      (pss_cons (ps_asg (pe_op op_mod (pe_callTy call_int1 (by rfl) T.n_int (by decide +kernel) (pa_cons (pe_op op_add (pe_op op_mul (pe_ix ix_list (pv 0) pe_int (fun _ _ => rfl)) pe_int) pe_int) pa_nil)) pe_int) (pg_sub (pv 0) pe_int set_list))
      (pss_one (ps_ret (pe_op op_mod (pe_callTy call_int1 (by rfl) T.n_int (by decide +kernel) (pa_cons (pe_op op_fdiv (pe_op op_mod (pe_callTy call_int1 (by rfl) T.n_int (by decide +kernel) (pa_cons (pe_op op_mul (pe_ix ix_list (pv 0) pe_int (fun _ _ => rfl)) (pe_ix ix_list (pv 0) pe_int (fun _ _ => rfl))) pa_nil)) pe_int) pe_int) pa_nil)) (pv 1)))))), ?_⟩
    refine ⟨_, rfl, _, _, _, _, rfl, rfl, hS, atI_nat (j := 0) rfl, _, _, rfl, rfl, _, rfl, ite2 (fun e => ?_) (fun e => ?_)⟩
    · refine ⟨_, rfl, _, _, _, _, rfl, rfl, hS, atI_nat (j := 0) rfl, _, rfl, _, _, rfl, pylong_no hm hm2, fun p hp => ?_⟩
      have npr : r ≠ p := ne_of_none hR hp
      refine ⟨p, _, rfl, .inl (.inl upd_same), rfl, _, _, rfl, _, rfl, r, _, _, 0, rfl, rfl, (upd_ne npr).trans hR, rfl, _, _, rfl, rfl, ?_⟩
      refine ⟨_, rfl, q _ _ (Int.emod_nonneg _ (by omega)) (Int.emod_lt_of_pos _ hm) ⟨_, _, upd_same, Int.ediv_nonneg hx (by omega), hy, hy2⟩ ((But.of (same_new hp)).trans But.at)⟩
    · refine ⟨_, rfl, _, _, _, _, rfl, rfl, hS, atI_nat (j := 1) rfl, _, _, rfl, rfl, .inr ⟨by decide, by decide⟩, _, _, rfl, rfl, .inl ⟨_, rfl, _, _, rfl, rfl, (by show (0 : Int) < _; decide), _, rfl, r, _, _, 1, rfl, rfl, hR, rfl, ?_⟩⟩
      have hR1 : (upd H r (.lst [.int x, .int (nx y)])) r = some (.lst [.int x, .int (nx y)]) := upd_same
      have hS1 : SqL K (upd H r (.lst [.int x, .int (nx y)])) r [.int x, .int (nx y)] := SqL.of hR1
      have hz0 := nx_lo y
      have hz1 := nx_hi y
      refine ⟨_, rfl, _, _, _, _, rfl, rfl, hS1, atI_nat (j := 1) rfl, _, rfl, _, _, _, _, rfl, rfl, hS1, atI_nat (j := 1) rfl, _, _, rfl, rfl, .inl ⟨by omega, by omega⟩, .inl ⟨_, rfl, _, _, rfl, rfl, (by show (0 : Int) < _; decide), _, _, rfl, rfl, ⟨by decide, by decide⟩, .inl ⟨_, rfl, _, rfl, _, _, rfl, rfl, hm, ?_⟩⟩⟩
      exact q _ _ (Int.emod_nonneg _ (by omega)) (Int.emod_lt_of_pos _ hm) ⟨_, _, hR1, hx, hz0, by omega⟩ But.at
end
end K19

set_option Elab.async false
set_option linter.all false
set_option maxRecDepth 100000
set_option maxHeartbeats 8000000
namespace K19
open PySem PySem.Spec L2 PSG PSS
open PyProof.Rows (IntsAre AllBare)
abbrev s__law_value : Stmt := topS 54
theorem sc__law_value : FnScope ["_law_pot_here", "_law_is_text"] ["_law_pot_here", "_law_is_text"] (defScope s__law_value) := ⟨rfl, rfl, rfl, by decide +kernel, rfl, by decide +kernel, by decide +kernel⟩

def abc : Str := "abcdefghijklmnopqrstuvwxyz"
def lets (x : Str) : List Bool := x.cps.toList.map fun c => decide (c ∈ abc.cps.toList)
def allLet (x : Str) : Bool := (lets x).all id
theorem let_mem {x : Str} : allLet x = true ↔ ∀ c ∈ x.cps.toList, c ∈ abc.cps.toList := by
  unfold allLet lets
  rw [List.all_map, List.all_eq_true]
  simp
theorem app_mem {x y : Str} {c : Nat} (h : c ∈ (x ++ y).cps.toList) : c ∈ x.cps.toList ∨ c ∈ y.cps.toList := by
  have e : (x ++ y).cps = x.cps ++ y.cps := rfl
  rw [e, Array.toList_append] at h
  exact List.mem_append.mp h
theorem app_len (x y : Str) : (x ++ y).length = x.length + y.length := by
  show (x.cps ++ y.cps).size = x.cps.size + y.cps.size
  exact Array.size_append
theorem let_app {x y : Str} (h : allLet x = true) (k : allLet y = true) : allLet (x ++ y) = true := let_mem.mpr fun c hc => (app_mem hc).elim (let_mem.mp h c) (let_mem.mp k c)
/-- letters one by one, put together -/
theorem join_ones : ∀ ys : List Str, (∀ y ∈ ys, allLet y = true ∧ y.length = 1) → allLet (Str.join "" ys) = true ∧ (Str.join "" ys).length = ys.length
  | [], _ => ⟨by decide +kernel, rfl⟩
  | [y], h => ⟨(h y List.mem_cons_self).1, (h y List.mem_cons_self).2⟩
  | x :: y :: r, h => by
    have ih := join_ones (y :: r) fun z m => h z (List.mem_cons_of_mem _ m)
    have hx := h x List.mem_cons_self
    have e : Str.join "" (x :: y :: r) = x ++ "" ++ Str.join "" (y :: r) := rfl
    rw [e]
    have e0 : ("" : Str).length = 0 := rfl
    refine ⟨let_app (let_app hx.1 (by decide +kernel)) ih.1, ?_⟩
    rw [app_len, app_len, hx.2, e0, ih.2]
    simp only [List.length_cons]
    omega
theorem ones_sum : ∀ ys : List Str, (∀ y ∈ ys, allLet y = true ∧ y.length = 1) → (ys.map (·.length)).sum = ys.length
  | [], _ => rfl
  | y :: r, h => by
    rw [List.map_cons, List.sum_cons, ones_sum r fun z m => h z (List.mem_cons_of_mem _ m), (h y List.mem_cons_self).2, List.length_cons]
    omega
/-- a column's name as the program accepts it, by its parts -/
structure Col (x : Str) : Prop where
  ne : x ≠ "none"
  lo : 1 ≤ x.length
  hi : x.length ≤ 17
  parts : ∃ ps : List Str, ps ≠ [] ∧ ps.length ≤ 2 ∧ (∀ p ∈ ps, p ≠ "" ∧ allLet p = true) ∧ Txt.join "." ps = x
theorem col_word {x : Str} (h : allLet x = true) (n : x ≠ "none") (l1 : 1 ≤ x.length) (l2 : x.length ≤ 17) : Col x := ⟨n, l1, l2, [x], by simp, by simp, fun p m => by
  rw [List.mem_singleton.mp m]
  exact ⟨fun e => by rw [e] at l1; exact absurd l1 (by decide), h⟩, by rw [TL.join_eq]; rfl⟩
theorem col_two {x y : Str} (h : allLet x = true) (k : allLet y = true) (l1 : 1 ≤ x.length) (l2 : x.length ≤ 8) (m1 : 1 ≤ y.length) (m2 : y.length ≤ 8) : Col (x ++ "." ++ y) := by
  have e1 : ("." : Str).length = 1 := rfl
  have l : (x ++ "." ++ y).length = x.length + 1 + y.length := by rw [app_len, app_len, e1]
  refine ⟨fun e => ?_, by omega, by omega, [x, y], by simp, by simp, fun p m => ?_, by rw [TL.join_eq]; rfl⟩
  · have d : 46 ∈ (x ++ "." ++ y).cps.toList := by
      have a1 : (x ++ "." ++ y).cps.toList = x.cps.toList ++ ("." : Str).cps.toList ++ y.cps.toList := by
        show ((x.cps ++ ("." : Str).cps) ++ y.cps).toList = _
        rw [Array.toList_append, Array.toList_append]
      rw [a1]
      exact List.mem_append_left _ (List.mem_append_right _ (by decide))
    rw [e] at d
    exact absurd d (by decide)
  · simp only [List.mem_cons, List.not_mem_nil, or_false] at m
    rcases m with rfl | rfl
    · exact ⟨fun e => by rw [e] at l1; exact absurd l1 (by decide), h⟩
    · exact ⟨fun e => by rw [e] at m1; exact absurd m1 (by decide), k⟩
/-- names of columns: one at least, few, none twice -/
structure Names (N : List Str) : Prop where
  col : ∀ x ∈ N, Col x
  nd : N.Nodup
  hi : N.length ≤ 6
theorem inV_str {x : Str} {N : List Str} : inV (.str x) (N.map V.str) = decide (x ∈ N) := by
  induction N with
  | nil => rfl
  | cons y r ih =>
    show ((y == x) || inV (.str x) (r.map V.str)) = _
    rw [ih, Bool.eq_iff_iff]
    simp only [Bool.or_eq_true, beq_iff_eq, decide_eq_true_eq, List.mem_cons]
    exact or_congr eq_comm Iff.rfl
theorem erase_map {α β : Type} {f : α → β} : ∀ (l : List α) (k : Nat), (l.map f).eraseIdx k = (l.eraseIdx k).map f
  | [], _ => rfl
  | _ :: _, 0 => rfl
  | x :: r, k + 1 => congrArg (f x :: ·) (erase_map r k)
theorem erase_perm {α : Type} : ∀ (l : List α) (k : Nat) (h : k < l.length), (l[k] :: l.eraseIdx k).Perm l
  | x :: r, 0, _ => List.Perm.refl _
  | x :: r, k + 1, h => (List.Perm.swap x (r[k]'(Nat.lt_of_succ_lt_succ h)) (r.eraseIdx k)).trans ((erase_perm r k (Nat.lt_of_succ_lt_succ h)).cons x)
def wy (b : Bool) : Str := if b then "down" else "up"
abbrev Ent := Str × Bool
/-- an entry stands as a tuple -/
def EntAt (H : Hp) (v : V) (e : Ent) : Prop := ∃ a, v = .ref a ∧ H a = some (.tup [.str e.1, .str (wy e.2)])
def EntsAt (H : Hp) : List V → List Ent → Prop
  | [], [] => True
  | v :: vs, e :: es => EntAt H v e ∧ EntsAt H vs es
  | _, _ => False
theorem EntsAt.mono {H H' : Hp} (h : ∀ a xs, H a = some (.tup xs) → H' a = some (.tup xs)) : ∀ {vs : List V} {es : List Ent}, EntsAt H vs es → EntsAt H' vs es
  | [], [], _ => trivial
  | v :: vs, e :: es, ⟨⟨a, x, y⟩, r⟩ => ⟨⟨a, x, h _ _ y⟩, EntsAt.mono h r⟩
theorem EntsAt.len {H : Hp} : ∀ {vs : List V} {es : List Ent}, EntsAt H vs es → vs.length = es.length
  | [], [], _ => rfl
  | _ :: _, _ :: _, ⟨_, r⟩ => congrArg (· + 1) (EntsAt.len r)
theorem EntsAt.app {H : Hp} {us : List V} {fs : List Ent} : ∀ {vs : List V} {es : List Ent}, EntsAt H vs es → EntsAt H us fs → EntsAt H (vs ++ us) (es ++ fs)
  | [], [], _, k => k
  | _ :: _, _ :: _, ⟨h, r⟩, k => ⟨h, EntsAt.app r k⟩
theorem EntsAt.at {H : Hp} : ∀ {vs : List V} {es : List Ent} {i : Nat} {v : V}, EntsAt H vs es → vs[i]? = some v → ∃ e, es[i]? = some e ∧ EntAt H v e
  | _ :: _, e :: _, 0, v, ⟨h, _⟩, k => ⟨e, rfl, by
    cases k
    exact h⟩
  | _ :: vs, _ :: es, i + 1, v, ⟨_, r⟩, k => EntsAt.at (i := i) r (by simpa using k)
theorem but_tup {r : Addr} {H H' : Hp} (g : Pt H r) (b : But r H H') : ∀ a xs, H a = some (.tup xs) → H' a = some (.tup xs) := fun a xs e => b a _ (fun z => by
  obtain ⟨x, y, k, _⟩ := g
  rw [z, k] at e
  cases e) e
/-- entries over these names -/
structure Ents (N : List Str) (E : List Ent) : Prop where
  sub : ∀ e ∈ E, e.1 ∈ N
  nd : (E.map (·.1)).Nodup
  hi : E.length ≤ 6
/-- a value of a column of texts, of numbers -/
def VaOk (t : Bool) (v : V) : Prop := if t = true then ∃ s : Str, v = .str s ∧ allLet s = true ∧ s.length ≤ 2 else ∃ i : Int, v = .int i
section
variable {P : Program} {w : World} {K : PySem.W.Frag} {mg : Str → Option Value} {base : Heap}
def spValue : Sp := fun vs H Q _ => ∃ (r : Addr) (t : Bool), vs = [.ref r, .bl t] ∧ Pt H r ∧ ∀ v H', VaOk t v → Pt H' r → But r H H' → Q v H'
theorem ok_lvalue {f f1 : Addr} {fd d1 : FuncData} (F : Fun K "_law_value" "_law_value" s__law_value f fd) (T : Blt mg) (F__law_draw : Fun K "_law_draw" "_law_draw" s__law_draw f1 d1) (b__law_draw : Binds K d1 ["_law_pot_here", "_law_many"] []) (g__law_draw : mg "_law_draw" = some (.ref f1)) :
    FnOk P w K mg base CX0 2 f fd ["_law_pot_here", "_law_is_text"] spValue := by
  have sc := sc__law_value
  have G__law_draw : FnOk P w K mg base CX0 1 f1 d1 _ spDraw := ok_draw F__law_draw T
  refine F.ok sc (fun vs H Q E h => ?_) (fun cdv A outer s H vs Q E hr h => ?_)
  · obtain ⟨r, t, rfl, _⟩ := h
    rfl
  · obtain ⟨r, t, rfl, hR, q⟩ := h
    refine ⟨_, (pss_cons (ps_if (pt_val (pv 1)) (pss_one (ps_ret (pe_ix ix_list (pe_lst (pa_cons pe_str (pa_cons pe_str (pa_cons pe_str (pa_cons pe_str (pa_cons pe_str pa_nil)))))) (pe_call G__law_draw (hr.mono (by decide)) (by rfl) g__law_draw F__law_draw.kp b__law_draw .nil pass0 (pa_cons (pv 0) (pa_cons pe_int pa_nil))) (fun _ _ => rfl)))) pss_nil)
      (pss_one (ps_ret (pe_ix ix_list (pe_lst (pa_cons (pe_call G__law_draw (hr.mono (by decide)) (by rfl) g__law_draw F__law_draw.kp b__law_draw .nil pass0 (pa_cons (pv 0) (pa_cons pe_int pa_nil))) (pa_cons (pe_call G__law_draw (hr.mono (by decide)) (by rfl) g__law_draw F__law_draw.kp b__law_draw .nil pass0 (pa_cons (pv 0) (pa_cons pe_int pa_nil))) (pa_cons (pe_op op_add (pe_op op_pow pe_int pe_int) (pe_call G__law_draw (hr.mono (by decide)) (by rfl) g__law_draw F__law_draw.kp b__law_draw .nil pass0 (pa_cons (pv 0) (pa_cons pe_int pa_nil)))) (pa_cons (pe_un un_neg pe_int) pa_nil))))) (pe_call G__law_draw (hr.mono (by decide)) (by rfl) g__law_draw F__law_draw.kp b__law_draw .nil pass0 (pa_cons (pv 0) (pa_cons pe_int pa_nil))) (fun _ _ => rfl))))), ?_⟩
    refine ⟨_, rfl, _, rfl, ?_⟩
    cases t with
    | true =>
      refine iteT ?_
      refine ⟨(by show 5 ≤ sizeLine; decide), fun p hp => ⟨_, rfl, r, 5, rfl, hR.new hp, by decide, by decide, fun c H2 c0 c1 g2 b2 => ?_⟩⟩
      have n := hR.off hp
      have aP := b2 p _ n upd_same
      have bt : But r H H2 := (But.of (same_new hp)).trans b2
      have c7 : c = 0 ∨ c = 1 ∨ c = 2 ∨ c = 3 ∨ c = 4 := by omega
      rcases c7 with rfl | rfl | rfl | rfl | rfl
      all_goals exact ⟨_, _, _, _, rfl, rfl, SqL.of aP, rfl, q _ _ ⟨_, rfl, by decide +kernel, by decide⟩ g2 bt⟩
    | false =>
      refine iteF ?_
      refine ⟨_, rfl, r, 3, rfl, hR, by decide, by decide, fun c H1 c0 c1 g1 b1 => ?_⟩
      refine ⟨_, rfl, r, 3, rfl, g1, by decide, by decide, fun e H2 e0 e1 g2 b2 => ?_⟩
      refine ⟨_, _, rfl, rfl, ⟨by decide, by decide, by decide⟩, _, rfl, r, 2, rfl, g2, by decide, by decide, fun x H3 x0 x1 g3 b3 => ?_⟩
      refine ⟨_, _, rfl, rfl, _, rfl, (by show 4 ≤ sizeLine; decide), fun p hp => ⟨_, rfl, r, 4, rfl, g3.new hp, by decide, by decide, fun d H4 d0 d1 g4 b4 => ?_⟩⟩
      have n := g3.off hp
      have aP := b4 p _ n upd_same
      have bt : But r H H4 := (((b1.trans b2).trans b3).trans (But.of (same_new hp))).trans b4
      have d2 : d = 0 ∨ d = 1 ∨ d = 2 ∨ d = 3 := by omega
      rcases d2 with rfl | rfl | rfl | rfl
      all_goals exact ⟨_, _, _, _, rfl, rfl, SqL.of aP, rfl, q _ _ ⟨_, rfl⟩ g4 bt⟩
end
end K19

set_option Elab.async false
set_option linter.all false
set_option maxRecDepth 100000
set_option maxHeartbeats 8000000
namespace K19
open PySem PySem.Spec L2 PSG PSS
open PyProof.Rows (IntsAre AllBare)
abbrev s_is_integer : Stmt := topS 4
theorem sc_is_integer : FnScope ["value"] ["value"] (defScope s_is_integer) := ⟨rfl, rfl, rfl, by decide +kernel, rfl, by decide +kernel, by decide +kernel⟩
abbrev s_is_listing : Stmt := topS 7
theorem sc_is_listing : FnScope ["value"] ["value"] (defScope s_is_listing) := ⟨rfl, rfl, rfl, by decide +kernel, rfl, by decide +kernel, by decide +kernel⟩
abbrev s_is_letters : Stmt := topS 8
theorem sc_is_letters : FnScope ["value", "letter"] ["value"] (defScope s_is_letters) := ⟨rfl, rfl, rfl, by decide +kernel, rfl, by decide +kernel, by decide +kernel⟩
abbrev s_is_value : Stmt := topS 9
theorem sc_is_value : FnScope ["value"] ["value"] (defScope s_is_value) := ⟨rfl, rfl, rfl, by decide +kernel, rfl, by decide +kernel, by decide +kernel⟩
abbrev s_kind_of_value : Stmt := topS 10
theorem sc_kind_of_value : FnScope ["value"] ["value"] (defScope s_kind_of_value) := ⟨rfl, rfl, rfl, by decide +kernel, rfl, by decide +kernel, by decide +kernel⟩
abbrev s_sign_between : Stmt := topS 11
theorem sc_sign_between : FnScope ["one", "other"] ["one", "other"] (defScope s_sign_between) := ⟨rfl, rfl, rfl, by decide +kernel, rfl, by decide +kernel, by decide +kernel⟩
abbrev s_sign_of : Stmt := topS 32
theorem sc_sign_of : FnScope ["one", "other", "value"] ["one", "other"] (defScope s_sign_of) := ⟨rfl, rfl, rfl, by decide +kernel, rfl, by decide +kernel, by decide +kernel⟩

/-- 0: none, 1: a number, 2: a text -/
def kd : PyData → Nat
  | .int _ => 1
  | .str x => if allLet x = true ∧ x.length ≤ 12 then 2 else 0
  | _ => 0
structure Cst (mg : Str → Option Value) : Prop where
  c_LETTERS : ∃ t, mg "LETTERS" = some (.str abc t)
  c_MOST_TEXT : ∃ t, mg "MOST_TEXT" = some (.int 12 t)
structure Thing (d : PyData) : Prop where
  sm : ∀ x, d = .str x → x.length ≤ 100
def letD : PyData → Bool
  | .str x => allLet x
  | _ => false
theorem op_or {X : Cx} {o : Value → Value → Sem Value} {r r' : R2} (h : OpR X o r) (h' : OpR X o r') : OpR X o fun x y H Q => r x y H Q ∨ r' x y H Q := by
  intro pins s σ H x y v u Q I rx ry hh
  rcases hh with hh | hh
  · exact h pins s σ H x y v u Q I rx ry hh
  · exact h' pins s σ H x y v u Q I rx ry hh
section
variable {P : Program} {w : World} {K : PySem.W.Frag} {mg : Str → Option Value} {base : Heap}
def spAsk (f : PyData → Bool) : Sp := fun vs H Q _ => ∃ v d, vs = [v] ∧ Dt true H v d ∧ Thing d ∧ ∀ H', Same H H' → Q (.bl (f d)) H'
theorem ok_int {f : Addr} {fd : FuncData} (F : Fun K "is_integer" "is_integer" s_is_integer f fd) (T : Blt mg) : FnOk P w K mg base CX0 1 f fd ["value"] (spAsk fun d => isI d && !isB d) := by
  have sc := sc_is_integer
  refine F.ok sc (fun vs H Q E h => ?_) (fun cdv A outer s H vs Q E hr h => ?_)
  · obtain ⟨v, d, rfl, _⟩ := h
    rfl
  · obtain ⟨v, d, rfl, hd, nd, q⟩ := h
    refine ⟨_, (pss_one (ps_ret (pe_and (pe_callB call_isi (by rfl) T.n_isinstance (by decide +kernel) (pa_cons (pv 0) (pa_cons (pe_bltn (v := .ty "int") (by rfl) T.n_int (by decide +kernel) rfl) pa_nil))) (pe_one (pe_not (pe_callB call_isi (by rfl) T.n_isinstance (by decide +kernel) (pa_cons (pv 0) (pa_cons (pe_bltn (v := .ty "bool") (by rfl) T.n_bool (by decide +kernel) rfl) pa_nil)))))))), ?_⟩
    refine ⟨_, rfl, v, .ty "int", _, _, _, rfl, .ty _, Dt.ty hd, kit_int d, _, rfl, ite2 (fun e => ?_) (fun e => ?_)⟩
    · refine ⟨_, rfl, v, .ty "bool", _, _, _, rfl, .ty _, Dt.ty hd, kit_bool d, _, rfl, ?_⟩
      have q' := q H (Same.refl _)
      dsimp only at q'
      rw [e, Bool.true_and] at q'
      exact q'
    · have q' := q H (Same.refl _)
      dsimp only at q'
      rw [Bool.eq_false_iff.mpr e, Bool.false_and] at q'
      exact q'
theorem ok_lets {f : Addr} {fd : FuncData} (F : Fun K "is_letters" "is_letters" s_is_letters f fd) (T : Blt mg) (U : Cst mg) : FnOk P w K mg base CX0 1 f fd ["value"] (spAsk letD) := by
  have sc := sc_is_letters
  obtain ⟨tL, cL⟩ := U.c_LETTERS
  refine F.ok sc (fun vs H Q E h => ?_) (fun cdv A outer s H vs Q E hr h => ?_)
  · obtain ⟨v, d, rfl, _⟩ := h
    rfl
  · obtain ⟨v, d, rfl, hd, nd, q⟩ := h
    refine ⟨_, (pss_one (ps_ret (pe_and (pe_callB call_isi (by rfl) T.n_isinstance (by decide +kernel) (pa_cons (pv 0) (pa_cons (pe_bltn (v := .ty "str") (by rfl) T.n_str (by decide +kernel) rfl) pa_nil))) (pe_one (pe_callB (cr_all rfl) (by rfl) T.n_all (by decide +kernel) (pa_cons (pe_lc (own := [("letter", 1)]) (g := gName 1) (tt := tYes) (by rfl) sc.nd (pi_str (pv 0)) (blkOk_by (own := [("letter", 1)]) (N := ["value", "letter"]) (sc := defScope s_is_letters) (by decide +kernel)) (fun _ _ _ _ _ => pg_name (i := 1) sc.nd rfl (Or.inl rfl)) (fun _ _ _ _ _ => pts_nil) (fun _ _ _ _ _ => (pe_cmpR op_in_sign (pv 1) (pe_glob (v := .str abc) (by rfl) cL ⟨_, rfl⟩) (by rfl)))) pa_nil)))))), ?_⟩
    refine ⟨_, rfl, v, .ty "str", _, _, _, rfl, .ty _, Dt.ty hd, kit_str d, _, rfl, ite2 (fun e => ?_) (fun e => ?_)⟩
    · cases d with
      | str x =>
        cases hd
        have few := nd.sm x rfl
        have ll : (lets x).length = x.cps.size := by
          unfold lets
          rw [List.length_map, Array.length_toList]
        refine ⟨_, rfl, x, rfl, fun p hp => lc_str (fun j G => Same H G ∧ G p = some (.lst (((lets x).take j).map V.bl))) ⟨same_new hp, upd_same⟩ ?_ ?_⟩
        · rintro i c G hc ⟨sm, at_⟩
          refine ⟨rfl, ?_⟩
          refine ⟨_, rfl, c, abc, rfl, rfl, _, at_, ?_, fun b o z => (upd_ne (ne_of_none z hp)).trans (sm _ _ z), ?_⟩
          · rw [List.length_map, List.length_take, ll]
            have e3 : x.cps.size ≤ 100 := few
            rw [sizeLine_eq]
            omega
          · have e2 : (lets x)[i]? = some (decide (c ∈ abc.cps.toList)) := by
              unfold lets
              rw [List.getElem?_map, Array.getElem?_toList, hc]
              rfl
            rw [upd_same, List.take_add_one, e2, List.map_append]
            rfl
        · rintro G ⟨sm, at_⟩
          rw [← ll, List.take_length] at at_
          exact ⟨p, lets x, rfl, SqL.of at_, q G sm⟩
      | _ => exact Bool.noConfusion e
    · have q' := q H (Same.refl _)
      cases d <;> first | exact q' | exact absurd rfl e
def valD (d : PyData) : Bool := kd d != 0
theorem kd_yes {x : Str} (z : allLet x = true ∧ x.length ≤ 12) : kd (.str x) = 2 := if_pos z
theorem kd_no {x : Str} (z : ¬ (allLet x = true ∧ x.length ≤ 12)) : kd (.str x) = 0 := if_neg z
theorem kd_int {d : PyData} (h : (isI d && !isB d) = true) : ∃ i, d = .int i := by
  cases d with
  | int i => exact ⟨i, rfl⟩
  | _ => first | exact Bool.noConfusion h | (simp [isI, isB] at h)
def lenD : PyData → Nat
  | .str x => x.length
  | _ => 0
theorem kd_not_int {d : PyData} (h : ¬ (isI d && !isB d) = true) : valD d = (letD d && decide (lenD d ≤ 12)) := by
  cases d with
  | int i => exact absurd rfl h
  | str x =>
    show (kd (.str x) != 0) = (allLet x && decide (x.length ≤ 12))
    by_cases h1 : allLet x = true
    · by_cases h2 : x.length ≤ 12
      · rw [kd_yes ⟨h1, h2⟩, h1, decide_eq_true h2]
        rfl
      · rw [kd_no (fun z => h2 z.2), decide_eq_false h2, Bool.and_false]
        rfl
    · rw [kd_no (fun z => h1 z.1), Bool.eq_false_iff.mpr h1, Bool.false_and]
      rfl
  | none => rfl
  | bool b => rfl
  | list _ => rfl
  | tuple _ => rfl
  | dict _ => rfl
theorem let_str {d : PyData} (h : letD d = true) : ∃ x, d = .str x ∧ allLet x = true := by
  cases d with
  | str x => exact ⟨x, rfl, h⟩
  | _ => exact Bool.noConfusion h
theorem ok_value {f f1 f2 : Addr} {fd d1 d2 : FuncData} (F : Fun K "is_value" "is_value" s_is_value f fd) (T : Blt mg) (U : Cst mg) (F_is_integer : Fun K "is_integer" "is_integer" s_is_integer f1 d1) (b_is_integer : Binds K d1 ["value"] []) (g_is_integer : mg "is_integer" = some (.ref f1))
    (F_is_letters : Fun K "is_letters" "is_letters" s_is_letters f2 d2) (b_is_letters : Binds K d2 ["value"] []) (g_is_letters : mg "is_letters" = some (.ref f2)) : FnOk P w K mg base CX0 2 f fd ["value"] (spAsk valD) := by
  have sc := sc_is_value
  obtain ⟨tM, cM⟩ := U.c_MOST_TEXT
  have G_is_integer : FnOk P w K mg base CX0 1 f1 d1 ["value"] _ := ok_int F_is_integer T
  have G_is_letters : FnOk P w K mg base CX0 1 f2 d2 ["value"] _ := ok_lets F_is_letters T U
  refine F.ok sc (fun vs H Q E h => ?_) (fun cdv A outer s H vs Q E hr h => ?_)
  · obtain ⟨v, d, rfl, _⟩ := h
    rfl
  · obtain ⟨v, d, rfl, hd, nd, q⟩ := h
    refine ⟨_, (pss_one (ps_ret (pe_or (pe_call G_is_integer (hr.mono (by decide)) (by rfl) g_is_integer F_is_integer.kp b_is_integer .nil pass0 (pa_cons (pv 0) pa_nil)) (pe_one (pe_and (pe_call G_is_letters (hr.mono (by decide)) (by rfl) g_is_letters F_is_letters.kp b_is_letters .nil pass0 (pa_cons (pv 0) pa_nil)) (pe_one (pe_cmpR op_le (pe_callB call_len_str (by rfl) T.n_len PySem.boot_len (pa_cons (pv 0) pa_nil)) (pe_glob (v := .int 12) (by rfl) cM ⟨_, rfl⟩) (nomark _)))))))), ?_⟩
    refine ⟨_, rfl, v, d, rfl, hd, nd, fun H1 s1 => ⟨_, rfl, ite2 (fun e => ?_) (fun e => ?_)⟩⟩
    · obtain ⟨i, rfl⟩ := kd_int e
      exact q H1 s1
    · refine ⟨_, rfl, v, d, rfl, hd.same s1, nd, fun H2 s2 => ⟨_, rfl, ite2 (fun e2 => ?_) (fun e2 => ?_)⟩⟩
      · obtain ⟨x, rfl, al⟩ := let_str e2
        cases hd
        have few := nd.sm x rfl
        refine ⟨_, rfl, x, rfl, by rw [sizeLine_eq]; omega, _, _, rfl, rfl, ?_⟩
        have q' := q H2 (s1.trans s2)
        rw [kd_not_int e] at q'
        have e3 : (letD (.str x) && decide (lenD (.str x) ≤ 12)) = decide ((x.length : Int) ≤ 12) := by
          rw [e2, Bool.true_and]
          exact decide_eq_decide.mpr ⟨fun z => by have z' : x.length ≤ 12 := z; omega, fun z => by show x.length ≤ 12; omega⟩
        rw [e3] at q'
        exact q'
      · have q' := q H2 (s1.trans s2)
        rw [kd_not_int e, Bool.eq_false_iff.mpr e2, Bool.false_and] at q'
        exact q'
def kindT (d : PyData) : Str := if isS d = true then "text" else "number"
def spKindOf : Sp := fun vs H Q _ => ∃ v d, vs = [v] ∧ Dt true H v d ∧ Q (.str (kindT d)) H
theorem ok_kind_of {f : Addr} {fd : FuncData} (F : Fun K "kind_of_value" "kind_of_value" s_kind_of_value f fd) (T : Blt mg) : FnOk P w K mg base CX0 1 f fd ["value"] spKindOf := by
  have sc := sc_kind_of_value
  refine F.ok sc (fun vs H Q E h => ?_) (fun cdv A outer s H vs Q E hr h => ?_)
  · obtain ⟨v, d, rfl, _⟩ := h
    rfl
  · obtain ⟨v, d, rfl, hd, q⟩ := h
    refine ⟨_, (pss_one (ps_ret (pe_ifExp (pt_val (pe_callB call_isi (by rfl) T.n_isinstance (by decide +kernel) (pa_cons (pv 0) (pa_cons (pe_bltn (v := .ty "str") (by rfl) T.n_str (by decide +kernel) rfl) pa_nil)))) pe_str pe_str))), ?_⟩
    refine ⟨_, rfl, v, .ty "str", _, _, _, rfl, .ty _, Dt.ty hd, kit_str d, _, rfl, ite2 (fun e => ?_) (fun e => ?_)⟩
    · unfold kindT at q
      rw [if_pos e] at q
      exact q
    · unfold kindT at q
      rw [if_neg e] at q
      exact q
/-- the sign of two values of one kind -/
def sgn : PyData → PyData → Int
  | .int i, .int j => if i < j then -1 else if j < i then 1 else 0
  | .str x, .str y => if x.cps.toList < y.cps.toList then -1 else if y.cps.toList < x.cps.toList then 1 else 0
  | _, _ => 0
theorem same_kind {d e : PyData} (h : kd d ≠ 0) (h2 : kd d = kd e) : (∃ i j, d = .int i ∧ e = .int j) ∨ ∃ x y, d = .str x ∧ e = .str y ∧ allLet x = true ∧ allLet y = true ∧ x.length ≤ 12 ∧ y.length ≤ 12 := by
  have str : ∀ {x : Str}, kd (.str x) ≠ 0 → allLet x = true ∧ x.length ≤ 12 := fun {x} z => by
    refine Classical.byContradiction fun n => z ?_
    exact kd_no n
  cases d with
  | int i => cases e with
    | int j => exact .inl ⟨i, j, rfl, rfl⟩
    | str y =>
      have z := str (x := y) (fun z => by rw [← h2] at z; exact h z)
      rw [kd_yes z] at h2
      cases h2
    | _ => cases h2
  | str x =>
    have z := str h
    cases e with
    | int j =>
      rw [kd_yes z] at h2
      cases h2
    | str y =>
      have z2 := str (x := y) (fun z => by rw [← h2] at z; exact h z)
      exact .inr ⟨x, y, rfl, rfl, z.1, z2.1, z.2, z2.2⟩
    | _ => exact absurd h2 h
  | _ => exact absurd rfl h
def spBetween : Sp := fun vs H Q _ => ∃ v u d e, vs = [v, u] ∧ Dt true H v d ∧ Dt true H u e ∧ kd d ≠ 0 ∧ kd d = kd e ∧ Q (.int (sgn d e)) H
theorem ok_between {f : Addr} {fd : FuncData} (F : Fun K "sign_between" "sign_between" s_sign_between f fd) : FnOk P w K mg base CX0 1 f fd ["one", "other"] spBetween := by
  have sc := sc_sign_between
  refine F.ok sc (fun vs H Q E h => ?_) (fun cdv A outer s H vs Q E hr h => ?_)
  · obtain ⟨v, u, d, e, rfl, _⟩ := h
    rfl
  · obtain ⟨v, u, d, e, rfl, hd, he, h1, h2, q⟩ := h
    refine ⟨_, (pss_cons (ps_if (pt_cmpR (op_or op_lt op_lt_str) (pv 0) (pv 1) (nomark _)) (pss_one (ps_ret (pe_un un_neg pe_int))) pss_nil)
      (pss_one (ps_ret (pe_ifExp (pt_cmpR (op_or op_gt op_gt_str) (pv 0) (pv 1) (nomark _)) pe_int pe_int)))), ?_⟩
    rcases same_kind h1 h2 with ⟨i, j, rfl, rfl⟩ | ⟨x, y, rfl, rfl, _⟩
    · cases hd
      cases he
      refine ⟨_, rfl, _, rfl, .inl ⟨i, j, rfl, rfl, _, rfl, ite2 (fun e => ?_) (fun e => ?_)⟩⟩
      · refine ⟨_, rfl, ?_⟩
        have q' : Q (.int (if i < j then -1 else if j < i then 1 else 0)) H := q
        rw [if_pos (of_decide_eq_true e)] at q'
        exact q'
      · refine ⟨_, rfl, _, rfl, .inl ⟨i, j, rfl, rfl, _, rfl, ite2 (fun e3 => ?_) (fun e3 => ?_)⟩⟩
        all_goals
          have q' : Q (.int (if i < j then -1 else if j < i then 1 else 0)) H := q
          rw [if_neg (fun z => e (decide_eq_true z))] at q'
        · rw [if_pos (of_decide_eq_true e3)] at q'
          exact q'
        · rw [if_neg (fun z => e3 (decide_eq_true z))] at q'
          exact q'
    · cases hd
      cases he
      refine ⟨_, rfl, _, rfl, .inr ⟨x, y, rfl, rfl, _, rfl, ite2 (fun e => ?_) (fun e => ?_)⟩⟩
      · refine ⟨_, rfl, ?_⟩
        have q' : Q (.int (if x.cps.toList < y.cps.toList then -1 else if y.cps.toList < x.cps.toList then 1 else 0)) H := q
        rw [if_pos (of_decide_eq_true e)] at q'
        exact q'
      · refine ⟨_, rfl, _, rfl, .inr ⟨x, y, rfl, rfl, _, rfl, ite2 (fun e3 => ?_) (fun e3 => ?_)⟩⟩
        all_goals
          have q' : Q (.int (if x.cps.toList < y.cps.toList then -1 else if y.cps.toList < x.cps.toList then 1 else 0)) H := q
          rw [if_neg (fun z => e (decide_eq_true z))] at q'
        · rw [if_pos (of_decide_eq_true e3)] at q'
          exact q'
        · rw [if_neg (fun z => e3 (decide_eq_true z))] at q'
          exact q'

/-- the sign of two values of one kind -/
def spSign : Sp := fun vs H Q _ => ∃ v u d e, vs = [v, u] ∧ Dt true H v d ∧ Dt true H u e ∧ Thing d ∧ Thing e ∧ kd d ≠ 0 ∧ kd d = kd e ∧ ∀ H', Same H H' → Q (.int (sgn d e)) H'
theorem ok_sign {f f1 f2 f3 : Addr} {fd d1 d2 d3 : FuncData} (F : Fun K "sign_of" "sign_of" s_sign_of f fd)
    (F_is_value : Fun K "is_value" "is_value" s_is_value f1 d1) (b_is_value : Binds K d1 ["value"] []) (g_is_value : mg "is_value" = some (.ref f1)) (G_is_value : FnOk P w K mg base CX0 2 f1 d1 ["value"] (spAsk valD))
    (F_kind_of_value : Fun K "kind_of_value" "kind_of_value" s_kind_of_value f2 d2) (b_kind_of_value : Binds K d2 ["value"] []) (g_kind_of_value : mg "kind_of_value" = some (.ref f2)) (T : Blt mg)
    (F_sign_between : Fun K "sign_between" "sign_between" s_sign_between f3 d3) (b_sign_between : Binds K d3 ["one", "other"] []) (g_sign_between : mg "sign_between" = some (.ref f3)) :
    FnOk P w K mg base CX0 3 f fd ["one", "other"] spSign := by
  have sc := sc_sign_of
  have G_kind_of_value : FnOk P w K mg base CX0 1 f2 d2 ["value"] spKindOf := ok_kind_of F_kind_of_value T
  have G_sign_between : FnOk P w K mg base CX0 1 f3 d3 ["one", "other"] spBetween := ok_between F_sign_between
  refine F.ok sc (fun vs H Q E h => ?_) (fun cdv A outer s H vs Q E hr h => ?_)
  · obtain ⟨v, u, d, e, rfl, _⟩ := h
    rfl
  · obtain ⟨v, u, d, e, rfl, hd, he, nd, ne, k1, yk, q1⟩ := h
    have k2 : kd e ≠ 0 := fun z => k1 (yk.trans z)
    have vy : ∀ {x : PyData}, kd x ≠ 0 → valD x = true := fun {x} h => by simpa [valD] using h
    refine ⟨_, (pss_cons (ps_for PassesOwn.never (by rfl) (pi_tup (pe_tup (pa_cons (pv 0) (pa_cons (pv 1) pa_nil)))) (pg_name (i := 2) sc.nd rfl (.inl rfl)) (pss_one (ps_if (pt_not (pt_val (pe_call G_is_value (hr.mono (by decide)) (by rfl) g_is_value F_is_value.kp b_is_value .nil pass0 (pa_cons (pv 2) pa_nil)))) (pss_one ps_never) pss_nil)))
      (pss_cons (ps_if (pt_cmpR op_ne (pe_call G_kind_of_value (hr.mono (by decide)) (by rfl) g_kind_of_value F_kind_of_value.kp b_kind_of_value .nil pass0 (pa_cons (pv 0) pa_nil)) (pe_call G_kind_of_value (hr.mono (by decide)) (by rfl) g_kind_of_value F_kind_of_value.kp b_kind_of_value .nil pass0 (pa_cons (pv 1) pa_nil)) (nomark _)) (pss_one ps_never) pss_nil)
      (pss_one (ps_ret (pe_call G_sign_between (hr.mono (by decide)) (by rfl) g_sign_between F_sign_between.kp b_sign_between .nil pass0 (pa_cons (pv 0) (pa_cons (pv 1) pa_nil))))))), ?_⟩
    refine ⟨_, rfl, _, rfl, by show 2 ≤ sizeLine; decide, fun p hp => ⟨p, rfl, ⟨_, SqT.of upd_same⟩, ?_⟩⟩
    have at0 : upd H p (.tup [v, u]) p = some (.tup [v, u]) := upd_same
    have s0 : Same H (upd H p (.tup [v, u])) := same_new hp
    generalize upd H p (.tup [v, u]) = H0 at at0 s0 ⊢
    refine for_tup (xs := [v, u]) (fun i σ G => ∃ y, σ = [some v, some u, y] ∧ Same H0 G) ⟨none, rfl, Same.refl _⟩ (fun i σ G _ ⟨_, _, k⟩ => SqT.of (k _ _ at0)) ?_ ?_
    · rintro i x σ G hx ⟨y, rfl, k⟩
      have t1 := s0.trans k
      match i, hx with
      | 0, hx =>
        cases hx
        refine ⟨_, rfl, v, d, rfl, hd.same t1, nd, fun H1 s1 => ⟨_, rfl, ite2 (fun a => ?_) (fun a => ?_)⟩⟩
        · rw [vy k1] at a
          cases a
        · exact ⟨_, rfl, k.trans s1⟩
      | 1, hx =>
        cases hx
        refine ⟨_, rfl, u, e, rfl, he.same t1, ne, fun H1 s1 => ⟨_, rfl, ite2 (fun a => ?_) (fun a => ?_)⟩⟩
        · rw [vy k2] at a
          cases a
        · exact ⟨_, rfl, k.trans s1⟩
      | i + 2, hx => cases hx
    · rintro σ G ⟨y, rfl, k⟩
      have t1 := s0.trans k
      refine ⟨_, rfl, v, d, rfl, hd.same t1, _, rfl, u, e, rfl, he.same t1, ?_⟩
      refine ⟨rfl, _, rfl, ite2 (fun a => ?_) (fun a => ?_)⟩
      · have eq : kindT d = kindT e := by
          rcases same_kind k1 yk with ⟨i, j, rfl, rfl⟩ | ⟨x, z, rfl, rfl, _⟩ <;> rfl
        rw [eq, decide_eq_true rfl] at a
        cases a
      · exact ⟨_, rfl, _, rfl, v, u, d, e, rfl, hd.same t1, he.same t1, k1, yk, q1 G t1⟩
end
end K19

set_option Elab.async false
set_option linter.all false
set_option maxRecDepth 100000
set_option maxHeartbeats 8000000
namespace K19
open PySem PySem.Spec L2 PSG PSS
open PyProof.Rows (IntsAre AllBare)
abbrev s_is_order_column : Stmt := topS 39
theorem sc_is_order_column : FnScope ["value", "parts", "part"] ["value"] (defScope s_is_order_column) := ⟨rfl, rfl, rfl, by decide +kernel, rfl, by decide +kernel, by decide +kernel⟩
abbrev s_is_entry : Stmt := topS 40
theorem sc_is_entry : FnScope ["value"] ["value"] (defScope s_is_entry) := ⟨rfl, rfl, rfl, by decide +kernel, rfl, by decide +kernel, by decide +kernel⟩
abbrev s_sign_by : Stmt := topS 43
theorem sc_sign_by : FnScope ["entries", "signs", "column", "direction", "sign"] ["entries", "signs"] (defScope s_sign_by) := ⟨rfl, rfl, rfl, by decide +kernel, rfl, by decide +kernel, by decide +kernel⟩

structure Cst2 (mg : Str → Option Value) : Prop where
  c_NO_ENTRIES : ∃ t, mg "NO_ENTRIES" = some (.str "none" t)
  c_MOST_COLUMN : ∃ t, mg "MOST_COLUMN" = some (.int 17 t)
section
variable {P : Program} {w : World} {K : PySem.W.Frag} {mg : Str → Option Value} {base : Heap}
def spIsCol : Sp := fun vs H Q _ => ∃ x : Str, vs = [.str x] ∧ Col x ∧ ∀ H', Same H H' → Q (.bl true) H'
theorem col_split {x : Str} (c : Col x) : ∃ ps : List Str, ps.length ≤ 2 ∧ (∀ p ∈ ps, p ≠ "" ∧ allLet p = true ∧ p.length ≤ 17) ∧ Txt.split x "." = ps := by
  obtain ⟨ps, ne, le, al, e⟩ := c.parts
  refine ⟨ps, le, fun p hp => ⟨(al p hp).1, (al p hp).2, ?_⟩, ?_⟩
  · have hi := c.hi
    rw [TL.join_eq] at e
    match ps, le, e with
    | [a], _, e =>
      have e2 : a = x := e
      rw [List.mem_singleton.mp hp, e2]
      exact hi
    | [a, b], _, e =>
      have e2 : a ++ "." ++ b = x := e
      have l := congrArg Str.length e2
      have l1 : ("." : Str).length = 1 := rfl
      rw [app_len, app_len, l1] at l
      simp only [List.mem_cons, List.not_mem_nil, or_false] at hp
      rcases hp with rfl | rfl <;> omega
  · rw [← e]
    refine TL.split_join (s := 46) (S := []) rfl (by decide +kernel) ne fun p hp hc => ?_
    have := let_mem.mp (al p hp).2 46 hc
    exact absurd this (by decide)
theorem ok_iscol {f f1 : Addr} {fd d1 : FuncData} (F : Fun K "is_order_column" "is_order_column" s_is_order_column f fd) (T : Blt mg) (U : Cst mg) (U2 : Cst2 mg)
    (F_is_letters : Fun K "is_letters" "is_letters" s_is_letters f1 d1) (b_is_letters : Binds K d1 ["value"] []) (g_is_letters : mg "is_letters" = some (.ref f1)) : FnOk P w K mg base CX0 2 f fd ["value"] spIsCol := by
  have sc := sc_is_order_column
  have G_is_letters : FnOk P w K mg base CX0 1 f1 d1 ["value"] _ := ok_lets F_is_letters T U
  obtain ⟨tN, cN⟩ := U2.c_NO_ENTRIES
  obtain ⟨tM, cM⟩ := U2.c_MOST_COLUMN
  refine F.ok sc (fun vs H Q E h => ?_) (fun cdv A outer s H vs Q E hr h => ?_)
  · obtain ⟨x, rfl, _⟩ := h
    rfl
  · obtain ⟨x, rfl, hx, q⟩ := h
    obtain ⟨ps, lp, ap, es⟩ := col_split hx
    refine ⟨_, (pss_cons (ps_if (PW.pt (pw_or (pt_not (pt_val (pe_callB call_isi (by rfl) T.n_isinstance (by decide +kernel) (pa_cons (pv 0) (pa_cons (pe_bltn (v := .ty "str") (by rfl) T.n_str (by decide +kernel) rfl) pa_nil))))) (pw_or (pt_cmpR op_eq (pv 0) (pe_glob (v := .str "none") (by rfl) cN ⟨_, rfl⟩) (nomark _)) (pw_or1 (pt_not (pt_chain op_le op_le pe_int (pe_callB call_len_str (by rfl) T.n_len PySem.boot_len (pa_cons (pv 0) pa_nil)) (pe_glob (v := .int 17) (by rfl) cM ⟨_, rfl⟩))))))) (pss_one (ps_ret pe_bl)) pss_nil)
      (pss_cons (ps_set (i := 1) sc.nd rfl (.inl rfl) (pe_split (pv 0) pe_str))
      (pss_one (ps_ret (pe_and (pe_cmpR op_le (pe_callB call_len_seq (by rfl) T.n_len PySem.boot_len (pa_cons (pv 1) pa_nil)) pe_int (nomark _)) (pe_one (pe_callB (cr_all rfl) (by rfl) T.n_all (by decide +kernel) (pa_cons (pe_lc (own := [("part", 2)]) (g := gName 2) (tt := tYes) (by rfl) sc.nd (pi_list (pv 1)) (blkOk_by (own := [("part", 2)]) (N := ["value", "parts", "part"]) (sc := defScope s_is_order_column) (by decide +kernel)) (fun _ _ _ _ _ => pg_name (i := 2) sc.nd rfl (Or.inl rfl)) (fun _ _ _ _ _ => pts_nil) (fun _ _ _ _ _ => (pe_and (pe_cmpR op_ne (pv 2) pe_str (nomark _)) (pe_one (pe_call G_is_letters (hr.mono (by decide)) (by rfl) g_is_letters F_is_letters.kp b_is_letters .nil pass0 (pa_cons (pv 2) pa_nil)))))) pa_nil)))))))), ?_⟩
    have hd : Dt true H (.str x) (.str x) := .str _
    refine ⟨_, rfl, .str x, .ty "str", _, _, _, rfl, .ty _, Dt.ty hd, kit_str (.str x), _, rfl, ite2 (fun e => ?_) (fun e => ?_)⟩
    · cases e
    · refine ⟨_, rfl, rfl, _, rfl, ite2 (fun e2 => ?_) (fun e2 => ?_)⟩
      · exact absurd (V.str.inj (of_decide_eq_true e2)) hx.ne
      · have l1 := hx.lo
        have l2 := hx.hi
        refine ⟨_, rfl, x, rfl, by rw [sizeLine_eq]; omega, ?_⟩
        refine ⟨_, _, rfl, rfl, _, rfl, ite2 (fun e3 => ?_) (fun e3 => ?_)⟩
        · refine ⟨_, _, rfl, rfl, _, rfl, ite2 (fun e4 => ?_) (fun e4 => ?_)⟩
          · have b : (x.length : Int) ≤ 17 := by omega
            simp [b] at e4
          · refine ⟨_, rfl, ⟨_, rfl⟩, _, _, rfl, rfl, rfl, by rw [sizeLine_eq]; omega, fun p hp => ?_⟩
            rw [es]
            have aP : upd H p (.lst (ps.map V.str)) p = some (.lst (ps.map V.str)) := upd_same
            have sP : Same H (upd H p (.lst (ps.map V.str))) := same_new hp
            generalize upd H p (.lst (ps.map V.str)) = H1 at aP sP ⊢
            have lm : (ps.map V.str).length = ps.length := List.length_map _
            refine ⟨_, rfl, p, _, rfl, .inl (SqL.of aP), _, _, rfl, rfl, _, rfl, ite2 (fun e5 => ?_) (fun e5 => ?_)⟩
            · refine ⟨_, rfl, p, rfl, ⟨_, SqL.of aP⟩, fun D hD => w_list (xs := ps.map V.str) (fun i G => Same H1 G ∧ G D = some (.lst ((List.replicate i true).map V.bl))) ⟨same_new hD, upd_same⟩ (fun i G _ z => SqL.of (z.1 _ _ aP)) ?_ ?_⟩
              · rintro i x G hi ⟨k, aD⟩
                refine ⟨rfl, ?_⟩
                have lt : i < ps.length := by
                  have := (List.getElem?_eq_some_iff.mp hi).1
                  rwa [lm] at this
                rw [List.getElem?_map, List.getElem?_eq_getElem lt] at hi
                obtain rfl : V.str ps[i] = x := Option.some.inj hi
                obtain ⟨a1, a2, a3⟩ := ap _ (List.getElem_mem lt)
                refine ⟨_, rfl, rfl, _, rfl, ite2 (fun e6 => ?_) (fun e6 => ?_)⟩
                · refine ⟨_, rfl, .str ps[i], .str ps[i], rfl, .str _, ⟨fun z ez => by
                    cases ez
                    omega⟩, fun H2 s2 => ?_⟩
                  have aD2 := s2 _ _ aD
                  refine ⟨_, aD2, by rw [List.length_map, List.length_replicate, sizeLine_eq]; omega, fun b o e => (upd_ne (ne_of_none e hD)).trans (s2 _ _ (k _ _ e)), ?_⟩
                  rw [upd_same]
                  show some (HO.lst (_ ++ [V.bl (allLet ps[i])])) = _
                  rw [a2, List.replicate_succ', List.map_append]
                  rfl
                · have b : ¬ V.str ps[i] = V.str "" := fun z => a1 (V.str.inj z)
                  exact absurd (by simpa using b) e6
              · rintro G ⟨k, aD⟩
                refine ⟨D, _, rfl, SqL.of aD, ?_⟩
                have al : (List.replicate (ps.map V.str).length true).all id = true := by simp
                rw [al]
                exact q G (sP.trans k)
            · have b : ((ps.map V.str).length : Int) ≤ 2 := by omega
              exact absurd (decide_eq_true b) e5
        · have b : (1 : Int) ≤ (x.length : Int) := by omega
          exact absurd (decide_eq_true b) e3
def spIsEnt : Sp := fun vs H Q _ => ∃ (v : V) (e : Ent), vs = [v] ∧ EntAt H v e ∧ Col e.1 ∧ ∀ H', Same H H' → Q (.bl true) H'
theorem ok_isent {f f1 : Addr} {fd d1 : FuncData} (F : Fun K "is_entry" "is_entry" s_is_entry f fd) (T : Blt mg)
    (F_is_order_column : Fun K "is_order_column" "is_order_column" s_is_order_column f1 d1) (b_is_order_column : Binds K d1 ["value"] []) (g_is_order_column : mg "is_order_column" = some (.ref f1)) (G_is_order_column : FnOk P w K mg base CX0 2 f1 d1 ["value"] spIsCol) : FnOk P w K mg base CX0 3 f fd ["value"] spIsEnt := by
  have sc := sc_is_entry
  refine F.ok sc (fun vs H Q E h => ?_) (fun cdv A outer s H vs Q E hr h => ?_)
  · obtain ⟨v, e, rfl, _⟩ := h
    rfl
  · obtain ⟨v, e, rfl, ⟨a, rfl, ha⟩, hc, q⟩ := h
    refine ⟨_, (pss_cons (ps_if (PW.pt (pw_or (pt_not (pt_val (pe_callB call_isi (by rfl) T.n_isinstance (by decide +kernel) (pa_cons (pv 0) (pa_cons (pe_bltn (v := .ty "tuple") (by rfl) T.n_tuple (by decide +kernel) rfl) pa_nil))))) (pw_or1 (pt_cmpR op_ne (pe_callB call_len_seq (by rfl) T.n_len PySem.boot_len (pa_cons (pv 0) pa_nil)) pe_int (nomark _))))) (pss_one (ps_ret pe_bl)) pss_nil)
      (pss_one (ps_ret (pe_and (pe_call G_is_order_column (hr.mono (by decide)) (by rfl) g_is_order_column F_is_order_column.kp b_is_order_column .nil pass0 (pa_cons (pe_ix ix_tup (pv 0) pe_int (fun _ _ => rfl)) pa_nil)) (pe_and (pe_callB call_isi (by rfl) T.n_isinstance (by decide +kernel) (pa_cons (pe_ix ix_tup (pv 0) pe_int (fun _ _ => rfl)) (pa_cons (pe_bltn (v := .ty "str") (by rfl) T.n_str (by decide +kernel) rfl) pa_nil))) (pe_one (pe_cmpR op_in_seq (pe_ix ix_tup (pv 0) pe_int (fun _ _ => rfl)) (pe_tup (pa_cons pe_str (pa_cons pe_str pa_nil))) (by first | exact nomark _ | rfl)))))))), ?_⟩
    have hd : Dt true H (.ref a) (.tuple [.str e.1, .str (wy e.2)]) := .tup ha (.cons (.str _) (.cons (.str _) .nil))
    refine ⟨_, rfl, .ref a, .ty "tuple", _, _, _, rfl, .ty _, Dt.ty hd, kit_tuple _, _, rfl, ite2 (fun e => ?_) (fun e2 => ?_)⟩
    · cases e
    · refine ⟨_, rfl, a, _, rfl, .inr (SqT.of ha), rfl, _, rfl, ite2 (fun e3 => ?_) (fun e3 => ?_)⟩
      · cases e3
      · refine ⟨_, rfl, a, _, 0, _, rfl, rfl, SqT.of ha, rfl, _, rfl, hc, fun H1 s1 => ?_⟩
        have ha1 := s1 _ _ ha
        have hs : Dt true H1 (.str (wy e.2)) (.str (wy e.2)) := .str _
        refine ⟨_, rfl, iteT ?_⟩
        refine ⟨_, rfl, a, _, 1, _, rfl, rfl, SqT.of ha1, rfl, .str (wy e.2), .ty "str", _, _, _, rfl, .ty _, Dt.ty hs, kit_str _, _, rfl, ite2 (fun e4 => ?_) (fun e4 => ?_)⟩
        · refine ⟨_, rfl, a, _, 1, _, rfl, rfl, SqT.of ha1, rfl, (by show 2 ≤ sizeLine; decide), fun p hp => ?_⟩
          refine ⟨p, _, rfl, .inr (SqT.of upd_same), rfl, rfl, ?_⟩
          have yes : inV (.str (wy e.2)) [.str "up", .str "down"] = true := by cases e.2 <;> decide +kernel
          rw [if_neg Bool.false_ne_true, yes]
          exact q _ (s1.trans (same_new hp))
        · exact absurd rfl e4
end
end K19

set_option Elab.async false
set_option linter.all false
set_option maxRecDepth 100000
set_option maxHeartbeats 8000000
namespace K19
open PySem PySem.Spec L2 PSG PSS
open PyProof.Rows (IntsAre AllBare)

/-- the sign by entries of signs of columns -/
def sgE (g : Str → Int) : List Ent → Int
  | [] => 0
  | e :: r => if g e.1 = 0 then sgE g r else if e.2 then -(g e.1) else g e.1
theorem sgE_zero {g : Str → Int} : ∀ {E : List Ent} {i : Nat}, (∀ j e, j < i → E[j]? = some e → g e.1 = 0) → sgE g E = sgE g (E.drop i)
  | [], i, _ => by rw [List.drop_nil]
  | e :: r, 0, _ => rfl
  | e :: r, i + 1, h => by
    have h0 := h 0 e (Nat.succ_pos _) rfl
    show (if g e.1 = 0 then sgE g r else if e.2 then -(g e.1) else g e.1) = sgE g (r.drop i)
    rw [if_pos h0]
    exact sgE_zero fun j x lt hx => h (j + 1) x (Nat.succ_lt_succ lt) (by simpa using hx)
section
variable {P : Program} {w : World} {K : PySem.W.Frag} {mg : Str → Option Value} {base : Heap}
/-- a dict that gives these signs for the columns of the entries -/
def GivesS (H : Hp) (d : Addr) (g : Str → Int) (E : List Ent) : Prop := ∃ kvs : List (Key × V), H d = some (.dK kvs) ∧ ∀ e ∈ E, (valV kvs (Sum.inr e.1)).getD (.int 0) = .int (g e.1)
def spBy : Sp := fun vs H Q _ => ∃ (t d : Addr) (xs : List V) (E : List Ent) (g : Str → Int), vs = [.ref t, .ref d] ∧ H t = some (.tup xs) ∧ EntsAt H xs E ∧ GivesS H d g E ∧ ∀ H', Same H H' → Q (.int (sgE g E)) H'
theorem ok_by {f : Addr} {fd : FuncData} (F : Fun K "sign_by" "sign_by" s_sign_by f fd) : FnOk P w K mg base CX0 1 f fd ["entries", "signs"] spBy := by
  have sc := sc_sign_by
  refine F.ok sc (fun vs H Q E h => ?_) (fun cdv A outer s H vs Q E hr h => ?_)
  · obtain ⟨t, d, xs, E, g, rfl, _⟩ := h
    rfl
  · obtain ⟨t, d, xs, E, g, rfl, ht, hE, ⟨kvs, hd, hg⟩, q⟩ := h
    have lE := hE.len
    refine ⟨_, (pss_cons (ps_for PassesOwn.never (by rfl) (pi_tup (pv 0)) (pg_tup (by rfl) (pgs_cons (pg_name (i := 2) sc.nd rfl (.inl rfl)) (pgs_cons (pg_name (i := 3) sc.nd rfl (.inl rfl)) pgs_nil))) (pss_cons (ps_set (i := 4) sc.nd rfl (.inl rfl) (pe_dget2 (hu_of hr) (pv 1) (pv 2) pe_int ⟨rfl, rfl, rfl, rfl⟩))
      (pss_one (ps_if (pt_cmpR op_ne (pv 4) pe_int (nomark _)) (pss_one (ps_ret (pe_ifExp (pt_cmpR op_eq (pv 3) pe_str (nomark _)) (pe_un un_neg (pv 4)) (pv 4)))) pss_nil))))
      (pss_one (ps_ret pe_int))), ?_⟩
    refine ⟨_, rfl, t, rfl, ⟨_, SqT.of ht⟩, for_tup (xs := xs) (fun i σ G => ∃ y2 y3 y4, σ = [some (.ref t), some (.ref d), y2, y3, y4] ∧ Same H G ∧ ∀ j e, j < i → E[j]? = some e → g e.1 = 0) ⟨none, none, none, rfl, Same.refl _, fun j e lt => by omega⟩ (fun i σ G _ ⟨_, _, _, _, k, _⟩ => SqT.of (k _ _ ht)) ?_ ?_⟩
    · rintro i x σ G hx ⟨y2, y3, y4, rfl, k, z⟩
      obtain ⟨e, he, a, rfl, ha⟩ := hE.at hx
      refine ⟨a, _, rfl, SqT.of (k _ _ ha), rfl, _, _, rfl, _, _, rfl, rfl, ?_⟩
      have he2 := hg e (List.mem_of_getElem? he)
      refine ⟨_, rfl, d, rfl, .inl ⟨kvs, .inl (k _ _ hd)⟩, _, rfl, _, DGet.k (k := Sum.inr e.1) (k _ _ hd), ?_⟩
      rw [he2]
      have ei : sgE g E = sgE g (E.drop i) := sgE_zero z
      have ed : E.drop i = e :: E.drop (i + 1) := by
        obtain ⟨lt, ee⟩ := List.getElem?_eq_some_iff.mp he
        rw [← ee]
        exact List.drop_eq_getElem_cons lt
      refine ⟨_, rfl, rfl, _, rfl, ite2 (fun e5 => ?_) (fun e5 => ?_)⟩
      · have ne : ¬ g e.1 = 0 := by simpa using e5
        have eq : sgE g E = if e.2 then -(g e.1) else g e.1 := by
          rw [ei, ed]
          exact if_neg ne
        rw [eq] at q
        refine ⟨_, rfl, rfl, _, rfl, ite2 (fun e6 => ?_) (fun e6 => ?_)⟩
        · have dn : e.2 = true := by
            cases h2 : e.2 with
            | true => rfl
            | false =>
              rw [h2] at e6
              exact absurd (V.str.inj (of_decide_eq_true e6)) (by decide +kernel)
          rw [if_pos dn] at q
          exact ⟨_, rfl, _, rfl, q G k⟩
        · have dn : ¬ e.2 = true := fun h2 => by
            rw [h2] at e6
            exact e6 (decide_eq_true rfl)
          rw [if_neg dn] at q
          exact ⟨_, rfl, q G k⟩
      · have ez : g e.1 = 0 := by simpa using e5
        refine ⟨_, _, _, rfl, k, fun j e' lt he' => ?_⟩
        rcases Nat.lt_succ_iff_lt_or_eq.mp lt with lt | rfl
        · exact z j e' lt he'
        · rw [he] at he'
          cases he'
          exact ez
    · rintro σ G ⟨y2, y3, y4, rfl, k, z⟩
      have e0 : sgE g E = 0 := by
        rw [sgE_zero (i := xs.length) z, lE, List.drop_length]
        rfl
      rw [e0] at q
      exact q G k
end
end K19

set_option Elab.async false
set_option linter.all false
set_option maxRecDepth 100000
set_option maxHeartbeats 8000000
namespace K19
open PySem PySem.Spec L2 PSG PSS
open PyProof.Rows (IntsAre AllBare)
abbrev s_Order_sign : Stmt := inClass (topS 46) 6
theorem sc_Order_sign : FnScope ["self", "signs"] ["self", "signs"] (defScope s_Order_sign) := ⟨rfl, rfl, rfl, by decide +kernel, rfl, by decide +kernel, by decide +kernel⟩
abbrev s_Order_entries : Stmt := inClass (topS 46) 1
theorem sc_Order_entries : FnScope ["self"] ["self"] (defScope s_Order_entries) := ⟨rfl, rfl, rfl, by decide +kernel, rfl, by decide +kernel, by decide +kernel⟩

/-- an Order of these entries stands at p -/
structure OrdAt (C : Addr) (H : Hp) (p : Addr) (E : List Ent) : Prop where
  ex : ∃ dx t xs, H p = some (.ins C dx [("_entries", .ref t)]) ∧ H t = some (.tup xs) ∧ EntsAt H xs E
theorem OrdAt.same {C p : Addr} {H H' : Hp} {E : List Ent} (h : OrdAt C H p E) (k : Same H H') : OrdAt C H' p E := by
  obtain ⟨dx, t, xs, a, b, c⟩ := h.ex
  exact ⟨dx, t, xs, k _ _ a, k _ _ b, c.mono fun _ _ e => k _ _ e⟩
structure OrdC (K : PySem.W.Frag) (mg : Str → Option Value) (C : Addr) : Prop where
  cl : Cls K C
  nE : NoAttr K C "_entries"
  glob : mg "Order" = some (.ref C)
section
variable {P : Program} {w : World} {K : PySem.W.Frag} {mg : Str → Option Value} {base : Heap}
def spOSign (C : Addr) : Sp := fun vs H Q _ => ∃ (p d : Addr) (E : List Ent) (g : Str → Int), vs = [.ref p, .ref d] ∧ OrdAt C H p E ∧ GivesS H d g E ∧ ∀ H', Same H H' → Q (.int (sgE g E)) H'
theorem ok_osign {C f f1 : Addr} {fd d1 : FuncData} (F : Fun K "sign" "Order.sign" s_Order_sign f fd) (O : OrdC K mg C) (F_sign_by : Fun K "sign_by" "sign_by" s_sign_by f1 d1) (b_sign_by : Binds K d1 ["entries", "signs"] []) (g_sign_by : mg "sign_by" = some (.ref f1)) :
    FnOk P w K mg base CX0 2 f fd ["self", "signs"] (spOSign C) := by
  have sc := sc_Order_sign
  have G_sign_by : FnOk P w K mg base CX0 1 f1 d1 _ spBy := ok_by F_sign_by
  refine F.ok sc (fun vs H Q E h => ?_) (fun cdv A outer s H vs Q E hr h => ?_)
  · obtain ⟨p, d, E, g, rfl, _⟩ := h
    rfl
  · obtain ⟨p, d, E, g, rfl, ho, hg, q⟩ := h
    obtain ⟨dx, t, xs, a, b, c⟩ := ho.ex
    refine ⟨_, (pss_one (ps_ret (pe_call G_sign_by (hr.mono (by decide)) (by rfl) g_sign_by F_sign_by.kp b_sign_by .nil pass0 (pa_cons (pe_fld (pv 0) rfl) (pa_cons (pv 1) pa_nil))))), ?_⟩
    exact ⟨_, rfl, p, C, dx, _, _, rfl, a, O.cl, O.nE, rfl, _, rfl, t, d, xs, E, g, rfl, b, c, hg, q⟩
end
end K19

set_option Elab.async false
set_option linter.all false
set_option maxRecDepth 100000
set_option maxHeartbeats 8000000
namespace K19
open PySem PySem.Spec L2 PSG PSS
open PyProof.Rows (IntsAre AllBare)
abbrev s_entries_in : Stmt := topS 42
theorem sc_entries_in : FnScope ["order"] ["order"] (defScope s_entries_in) := ⟨rfl, rfl, rfl, by decide +kernel, rfl, by decide +kernel, by decide +kernel⟩

/-- a list or a tuple of entries -/
def SeqE (H : Hp) (v : V) (E : List Ent) : Prop := ∃ a xs, v = .ref a ∧ (H a = some (.lst xs) ∨ H a = some (.tup xs)) ∧ EntsAt H xs E
theorem SeqE.same {H H' : Hp} {v : V} {E : List Ent} (h : SeqE H v E) (k : Same H H') : SeqE H' v E := by
  obtain ⟨a, xs, e, h, c⟩ := h
  exact ⟨a, xs, e, h.elim (fun z => .inl (k _ _ z)) (fun z => .inr (k _ _ z)), c.mono fun _ _ e => k _ _ e⟩
def ArgE (C : Addr) (H : Hp) (v : V) (E : List Ent) : Prop := SeqE H v E ∨ ∃ p, v = .ref p ∧ OrdAt C H p E
/-- what the kit says of the class when asked whether a thing is one -/
structure OrdI (K : PySem.W.Frag) (C : Addr) : Prop where
  kL : PySem.W.kitOne K (.type "list") (.ref C) = some false
  kT : PySem.W.kitOne K (.type "tuple") (.ref C) = some false
  i1 : PySem.W.findIn K (.ref C) "__class__" = some (some (.builtin "object.__class__"))
  i2 : PySem.W.specialIn K (.builtin "object.__class__") "__get__" = some (some (.builtin "getset_descriptor.__get__"))
  i3 : PySem.W.takesIn K (.builtin "object.__class__") = some true
  i4 : PySem.W.mroIn K C (.type "object") = some true
section
variable {P : Program} {w : World} {K : PySem.W.Frag} {mg : Str → Option Value} {base : Heap}
def spEin (C : Addr) : Sp := fun vs H Q _ => ∃ (v : V) (E : List Ent), vs = [v] ∧ ArgE C H v E ∧ ∀ u, SeqE H u E → Q u H
theorem ok_ein {C f pE fE : Addr} {fd dE : FuncData} (F : Fun K "entries_in" "entries_in" s_entries_in f fd) (T : Blt mg) (O : OrdC K mg C) (I : OrdI K C) (PO_entries : PropOf K C "entries" pE fE) (G_entries : FnOk P w K mg base CX0 1 fE dE ["self"] (getSp C "_entries")) (b_entries : Binds K dE ["self"] []) :
    FnOk P w K mg base CX0 3 f fd ["order"] (spEin C) := by
  have sc := sc_entries_in
  refine F.ok sc (fun vs H Q E h => ?_) (fun cdv A outer s H vs Q E hr h => ?_)
  · obtain ⟨v, E, rfl, _⟩ := h
    rfl
  · obtain ⟨v, E, rfl, ho, q⟩ := h
    refine ⟨_, (pss_one (ps_ret (pe_ifExp (pt_val (pe_callB call_isi (by rfl) T.n_isinstance (by decide +kernel) (pa_cons (pv 0) (pa_cons (pe_glob (v := .ref _) (by rfl) O.glob rfl) pa_nil)))) (pe_prop (pv 0) O.cl PO_entries G_entries (hr.mono (by decide)) b_entries .nil pass0 rfl) (pv 0)))), ?_⟩
    rcases ho with ⟨a, xs, rfl, hs, c⟩ | ⟨p, rfl, ho⟩
    · rcases hs with hs | hs
      · exact ⟨_, rfl, .ref a, .ref C, _, _, false, rfl, .own C, .base (.lst hs), I.kL, _, rfl, iteF ⟨_, rfl, q _ ⟨a, xs, rfl, .inl hs, c⟩⟩⟩
      · exact ⟨_, rfl, .ref a, .ref C, _, _, false, rfl, .own C, .base (.tup hs), I.kT, _, rfl, iteF ⟨_, rfl, q _ ⟨a, xs, rfl, .inr hs, c⟩⟩⟩
    · obtain ⟨dx, t, xs, a, b, c⟩ := ho.ex
      have same : PySem.W.kitOne K (.ref C) (.ref C) = some true := by
        unfold PySem.W.kitOne
        rw [if_pos (by simp)]
      refine ⟨_, rfl, .ref p, .ref C, _, _, true, rfl, .own C, .base (.ins a O.cl I.i1 I.i2 I.i3 I.i4), same, _, rfl, iteT ?_⟩
      exact ⟨_, rfl, p, dx, _, rfl, a, p, dx, _, _, rfl, a, rfl, q _ ⟨t, xs, rfl, .inr b, c⟩⟩
end
end K19

set_option Elab.async false
set_option linter.all false
set_option maxRecDepth 100000
set_option maxHeartbeats 8000000
namespace K19
open PySem PySem.Spec L2 PSG PSS
open PyProof.Rows (IntsAre AllBare)
abbrev s_first_wrong_entry : Stmt := topS 41
theorem sc_first_wrong_entry : FnScope ["entries", "earlier", "position", "entry"] ["entries"] (defScope s_first_wrong_entry) := ⟨rfl, rfl, rfl, by decide +kernel, rfl, by decide +kernel, by decide +kernel⟩
abbrev s_Order___init__ : Stmt := inClass (topS 46) 0
theorem sc_Order___init__ : FnScope ["self", "entries", "listed", "wrong", "column", "direction"] ["self", "entries"] (defScope s_Order___init__) := ⟨rfl, rfl, rfl, by decide +kernel, rfl, by decide +kernel, by decide +kernel⟩

section
variable {P : Program} {w : World} {K : PySem.W.Frag} {mg : Str → Option Value} {base : Heap}
def spLst : Sp := fun vs H Q _ => ∃ (v : V) (E : List Ent), vs = [v] ∧ SeqE H v E ∧ ∀ H', Same H H' → Q (.bl true) H'
theorem ok_listing {f : Addr} {fd : FuncData} (F : Fun K "is_listing" "is_listing" s_is_listing f fd) (T : Blt mg) : FnOk P w K mg base CX0 1 f fd ["value"] spLst := by
  have sc := sc_is_listing
  refine F.ok sc (fun vs H Q E h => ?_) (fun cdv A outer s H vs Q E hr h => ?_)
  · obtain ⟨v, E, rfl, _⟩ := h
    rfl
  · obtain ⟨v, E, rfl, ⟨a, xs, rfl, hs, c⟩, q⟩ := h
    refine ⟨_, (pss_one (ps_ret (pe_callB call_isiT (by rfl) T.n_isinstance (by decide +kernel) (pa_cons (pv 0) (pa_cons (pe_tup (pa_cons (pe_bltn (v := .ty "list") (by rfl) T.n_list (by decide +kernel) rfl) (pa_cons (pe_bltn (v := .ty "tuple") (by rfl) T.n_tuple (by decide +kernel) rfl) pa_nil))) pa_nil))))), ?_⟩
    refine ⟨_, rfl, (by show 2 ≤ sizeLine; decide), fun p hp => ?_⟩
    have k : Same H (upd H p (.tup [.ty "list", .ty "tuple"])) := same_new hp
    rcases hs with hs | hs
    · exact ⟨.ref a, p, _, _, _, true, rfl, upd_same, .cons (.ty _) (.cons (.ty _) .nil), .base (.lst (k _ _ hs)), by kernel_rfl, q _ k⟩
    · exact ⟨.ref a, p, _, _, _, true, rfl, upd_same, .cons (.ty _) (.cons (.ty _) .nil), .base (.tup (k _ _ hs)), by kernel_rfl, q _ k⟩
/-- entries that an Order takes -/
structure EOk (E : List Ent) : Prop where
  col : ∀ e ∈ E, Col e.1
  nd : (E.map (·.1)).Nodup
  hi : E.length ≤ 12
def spWrong : Sp := fun vs H Q _ => ∃ (v : V) (E : List Ent), vs = [v] ∧ SeqE H v E ∧ EOk E ∧ ∀ H', Same H H' → Q .non H'
def spOInit (C : Addr) : Sp := fun vs H Q _ => ∃ (p dx : Addr) (v : V) (E : List Ent), vs = [.ref p, v] ∧ H p = some (.ins C dx []) ∧ ArgE C H v E ∧ EOk E ∧ ∀ H', OrdAt C H' p E → (∀ b o, b ≠ p → H b = some o → H' b = some o) → Q .non H'
theorem ok_oinit {C f f1 f2 f3 : Addr} {fd d1 d2 d3 : FuncData} {dvs : List V} {kws : List (Str × V)} (F : FunD K "__init__" "Order.__init__" (defArgs s_Order___init__) (defBody s_Order___init__) (defScope s_Order___init__) dvs kws f fd) (T : Blt mg) (O : OrdC K mg C)
    (F_entries_in : Fun K "entries_in" "entries_in" s_entries_in f1 d1) (b_entries_in : Binds K d1 ["order"] []) (g_entries_in : mg "entries_in" = some (.ref f1)) (G_entries_in : FnOk P w K mg base CX0 3 f1 d1 ["order"] (spEin C))
    (F_is_listing : Fun K "is_listing" "is_listing" s_is_listing f2 d2) (b_is_listing : Binds K d2 ["value"] []) (g_is_listing : mg "is_listing" = some (.ref f2))
    (F_first_wrong_entry : Fun K "first_wrong_entry" "first_wrong_entry" s_first_wrong_entry f3 d3) (b_first_wrong_entry : Binds K d3 ["entries"] []) (g_first_wrong_entry : mg "first_wrong_entry" = some (.ref f3)) (G_first_wrong_entry : FnOk P w K mg base CX0 4 f3 d3 ["entries"] spWrong) :
    FnOk P w K mg base CX0 5 f fd ["self", "entries"] (spOInit C) := by
  have sc := sc_Order___init__
  have G_is_listing : FnOk P w K mg base CX0 1 f2 d2 ["value"] spLst := ok_listing F_is_listing T
  refine FunD.ok F sc (fun vs H Q E h => ?_) (fun cdv A outer s H vs Q E hr h => ?_)
  · obtain ⟨p, dx, v, E, rfl, _⟩ := h
    rfl
  · obtain ⟨p, dx, v, E, rfl, hp, hv, hE, q⟩ := h
    refine ⟨_, (pss_cons (ps_set (i := 2) sc.nd rfl (.inl rfl) (pe_call G_entries_in (hr.mono (by decide)) (by rfl) g_entries_in F_entries_in.kp b_entries_in .nil pass0 (pa_cons (pv 1) pa_nil)))
      (pss_cons (ps_if (pt_not (pt_val (pe_call G_is_listing (hr.mono (by decide)) (by rfl) g_is_listing F_is_listing.kp b_is_listing .nil pass0 (pa_cons (pv 2) pa_nil)))) (pss_one ps_never) pss_nil)
      (pss_cons (ps_set (i := 3) sc.nd rfl (.inl rfl) (pe_call G_first_wrong_entry (hr.mono (by decide)) (by rfl) g_first_wrong_entry F_first_wrong_entry.kp b_first_wrong_entry .nil pass0 (pa_cons (pv 2) pa_nil)))
      (pss_cons (ps_if (pt_cmpR op_notN (pv 3) pe_non (nomark _)) (pss_one ps_never) pss_nil)
      (pss_one (ps_fld (pv 0) (pe_callTy call_tuple_of (by rfl) T.n_tuple (by decide +kernel) (pa_cons (pe_lc (own := [("column", 4), ("direction", 5)]) (g := gTup K 2 _) (tt := tYes) (by rfl) sc.nd (pi_or (pi_list (pv 2)) (pi_tup (pv 2))) (blkOk_by (own := [("column", 4), ("direction", 5)]) (N := ["self", "entries", "listed", "wrong", "column", "direction"]) (sc := defScope s_Order___init__) (by decide +kernel)) (fun _ _ _ _ _ => pg_tup (by rfl) (pgs_cons (pg_name (i := 4) sc.nd rfl (Or.inl rfl)) (pgs_cons (pg_name (i := 5) sc.nd rfl (Or.inl rfl)) pgs_nil))) (fun _ _ _ _ _ => pts_nil) (fun _ _ _ _ _ => (pe_tup (pa_cons (pv 4) (pa_cons (pv 5) pa_nil))))) pa_nil)) rfl)))))), ?_⟩
    refine ⟨_, rfl, v, E, rfl, hv, fun u hu => ?_⟩
    refine ⟨_, rfl, u, E, rfl, hu, fun H1 s1 => ⟨_, rfl, ite2 (fun e => ?_) (fun e => ?_)⟩⟩
    · cases e
    · refine ⟨_, rfl, u, E, rfl, hu.same s1, hE, fun H2 s2 => ?_⟩
      have k2 := s1.trans s2
      obtain ⟨a, xs, rfl, hs, c⟩ := hu.same k2
      have hq : SqL K H2 a xs ∨ SqT K H2 a xs := hs.elim (fun z => .inl (SqL.of z)) fun z => .inr (SqT.of z)
      refine ⟨_, rfl, rfl, _, rfl, ite2 (fun e2 => ?_) (fun e2 => ?_)⟩
      · simp at e2
      · have lE := c.len
        have hi := hE.hi
        refine seq_or rfl hq fun J wk D hD => w_wk wk (fun i G => Same H2 G ∧ ∃ ys, G D = some (.lst ys) ∧ EntsAt G ys (E.take i)) ⟨same_new hD, [], upd_same, trivial⟩ (fun i G _ z => z.1) ?_ ?_
        · rintro i x G hx ⟨k, ys, aD, cY⟩
          obtain ⟨e, he, b, rfl, hb⟩ := c.at hx
          refine ⟨b, _, rfl, SqT.of (k _ _ hb), rfl, _, _, rfl, _, _, rfl, rfl, ?_⟩
          refine ⟨rfl, _, rfl, _, rfl, (by show 2 ≤ sizeLine; decide), fun t ht => ?_⟩
          have ntD : D ≠ t := ne_of_none aD ht
          have ly : ys.length ≤ 12 := by
            rw [cY.len, List.length_take]
            omega
          refine ⟨ys, (upd_ne ntD).trans aD, by rw [sizeLine_eq]; omega, fun b o e => (upd_ne (ne_of_none e hD)).trans ((upd_ne (ne_of_none (k _ _ e) ht)).trans (k _ _ e)), ys ++ [.ref t], upd_same, ?_⟩
          rw [List.take_add_one, he]
          have mono : ∀ c zs, G c = some (.tup zs) → (upd (upd G t (.tup [.str e.1, .str (wy e.2)])) D (.lst (ys ++ [.ref t]))) c = some (.tup zs) := fun c zs e => by
            have ncD : c ≠ D := fun z => by
              rw [z, aD] at e
              cases e
            exact (upd_ne ncD).trans ((upd_ne (ne_of_none e ht)).trans e)
          exact (cY.mono mono).app ⟨⟨t, rfl, (upd_ne ntD.symm).trans upd_same⟩, trivial⟩
        · rintro G ⟨k, ys, aD, cY⟩
          rw [lE, List.take_length] at cY
          refine ⟨D, ys, rfl, .inl ⟨SqL.of aD, fun t ht => ?_⟩⟩
          have kG := k2.trans k
          have hpG := kG _ _ hp
          have npt : p ≠ t := ne_of_none hpG ht
          refine ⟨_, rfl, p, C, dx, [], rfl, (upd_ne npt).trans hpG, O.cl, O.nE, (by show 0 < 1000; decide), ?_⟩
          have mono : ∀ c zs, G c = some (.tup zs) → (upd (upd G t (.tup ys)) p (.ins C dx (putF "_entries" (.ref t) []))) c = some (.tup zs) := fun c zs e => by
            have ncp : c ≠ p := fun z => by
              rw [z, hpG] at e
              cases e
            exact (upd_ne ncp).trans ((upd_ne (ne_of_none e ht)).trans e)
          refine q _ ⟨dx, t, ys, upd_same, (upd_ne npt.symm).trans upd_same, cY.mono mono⟩ fun b o nb e => (upd_ne nb).trans ((upd_ne (ne_of_none (kG _ _ e) ht)).trans (kG _ _ e))
end
end K19

set_option Elab.async false
set_option linter.all false
set_option maxRecDepth 100000
set_option maxHeartbeats 8000000
namespace K19
open PySem PySem.Spec L2 PSG PSS
open PyProof.Rows (IntsAre AllBare)

section
variable {P : Program} {w : World} {K : PySem.W.Frag} {mg : Str → Option Value} {base : Heap}
theorem ok_wrong {f f1 : Addr} {fd d1 : FuncData} (F : Fun K "first_wrong_entry" "first_wrong_entry" s_first_wrong_entry f fd) (T : Blt mg) (F_is_entry : Fun K "is_entry" "is_entry" s_is_entry f1 d1) (b_is_entry : Binds K d1 ["value"] []) (g_is_entry : mg "is_entry" = some (.ref f1)) (G_is_entry : FnOk P w K mg base CX0 3 f1 d1 ["value"] spIsEnt) :
    FnOk P w K mg base CX0 4 f fd ["entries"] spWrong := by
  have sc := sc_first_wrong_entry
  refine F.ok sc (fun vs H Q E h => ?_) (fun cdv A outer s H vs Q E hr h => ?_)
  · obtain ⟨v, E, rfl, _⟩ := h
    rfl
  · obtain ⟨v, E, rfl, ⟨a, xs, rfl, hs, c⟩, hE, q⟩ := h
    have hi := hE.hi
    have lE := c.len
    refine ⟨_, (pss_cons (ps_set (i := 1) sc.nd rfl (.inl rfl) pe_dnewK)
      (pss_cons (ps_for PassesOwn.never (by rfl) (pi_or (pi_enum (by rfl) T.n_enumerate (pa_cons (pv 0) pa_nil)) (PSE.pi_enumT (by rfl) T.n_enumerate (pa_cons (pv 0) pa_nil))) (pg_tup (by rfl) (pgs_cons (pg_name (i := 2) sc.nd rfl (.inl rfl)) (pgs_cons (pg_name (i := 3) sc.nd rfl (.inl rfl)) pgs_nil))) (pss_cons (ps_if (PW.pt (pw_or (pt_not (pt_val (pe_call G_is_entry (hr.mono (by decide)) (by rfl) g_is_entry F_is_entry.kp b_is_entry .nil pass0 (pa_cons (pv 3) pa_nil)))) (pw_or1 (pt_cmp (pc_din (hu_of hr) (pe_ix ix_tup (pv 3) pe_int (fun _ _ => rfl)) (pv 1)))))) (pss_one (ps_ret (pv 2))) pss_nil)
      (pss_one (ps_dput (hu_of hr) (pv 1) (pe_ix ix_tup (pv 3) pe_int (fun _ _ => rfl)) pe_bl rfl))))
      (pss_one (ps_ret pe_non)))), ?_⟩
    intro D hD
    have k0 : Same H (upd H D (.dK [])) := same_new hD
    rcases hs with hs | hs
    · refine .inl ⟨_, rfl, a, xs, rfl, SqL.of (k0 _ _ hs), for_enum (xs := xs) (fun i σ G => ∃ y2 y3, σ = [some (.ref a), some (.ref D), y2, y3] ∧ Same H G ∧ ∃ kvs : List (Key × V), G D = some (.dK kvs) ∧ (∀ x : Str, (valV kvs (Sum.inr x)).isSome = true → ∃ j e, j < i ∧ E[j]? = some e ∧ e.1 = x) ∧ kvs.length ≤ i) ⟨none, none, rfl, k0, [], upd_same, (fun x z => by cases z), Nat.le_refl _⟩ (fun i σ G ⟨_, _, _, k, _⟩ => SqL.of (k _ _ hs)) ?_ ?_⟩
      · rintro i x σ G T hx ⟨y2, y3, rfl, k, kvs, aD, hk, lk⟩ hT
        obtain ⟨e, he, b, rfl, hb⟩ := c.at hx
        have lt : i < E.length := (List.getElem?_eq_some_iff.mp he).1
        have nTD : D ≠ T := ne_of_none aD hT
        have aD1 : upd G T (.tup [.int (i : Nat), .ref b]) D = some (.dK kvs) := (upd_ne nTD).trans aD
        have kT : Same H (upd G T (.tup [.int (i : Nat), .ref b])) := k.trans (same_new hT)
        refine ⟨T, _, rfl, SqT.of upd_same, rfl, _, _, rfl, _, _, rfl, rfl, ?_⟩
        generalize upd G T (.tup [.int (i : Nat), .ref b]) = G1 at aD1 kT ⊢
        have col := hE.col e (List.mem_of_getElem? he)
        have nw : valV kvs (Sum.inr e.1) = none := by
          cases h0 : valV kvs (Sum.inr e.1) with
          | none => rfl
          | some v0 =>
            obtain ⟨j, e', lj, hj, ee⟩ := hk e.1 (by rw [h0]; rfl)
            have lt2 : j < E.length := by omega
            have m1 : (E.map (·.1))[j]? = some e.1 := by rw [List.getElem?_map, hj]; exact congrArg some ee
            have m2 : (E.map (·.1))[i]? = some e.1 := by rw [List.getElem?_map, he]; rfl
            have := (List.getElem?_inj (by rw [List.length_map]; exact lt2) hE.nd).mp (m1.trans m2.symm)
            omega
        refine ⟨_, rfl, .ref b, e, rfl, ⟨b, rfl, kT _ _ hb⟩, col, fun H2 s2 => ⟨_, rfl, ite2 (fun e2 => ?_) (fun e2 => ?_)⟩⟩
        · cases e2
        · have k2 := kT.trans s2
          have aD2 := s2 _ _ aD1
          refine ⟨_, rfl, b, _, 0, _, rfl, rfl, SqT.of (k2 _ _ hb), rfl, _, rfl, D, _, rfl, DGet.k (k := Sum.inr e.1) aD2, _, rfl, ite2 (fun e3 => ?_) (fun e3 => ?_)⟩
          · rw [nw] at e3
            cases e3
          · refine ⟨_, rfl, _, rfl, b, _, 0, _, rfl, rfl, SqT.of (k2 _ _ hb), rfl, D, _, rfl, DPut.k (k := Sum.inr e.1) aD2 (small1000 (by omega)), ?_⟩
            refine ⟨_, _, rfl, fun b o e => (upd_ne (ne_of_none e hD)).trans (k2 _ _ e), _, upd_same, fun x hx => ?_, ?_⟩
            · rw [valV_put] at hx
              by_cases ex : (Sum.inr x : Key) = Sum.inr e.1
              · exact ⟨i, e, Nat.lt_succ_self _, he, (Sum.inr.inj ex).symm⟩
              · rw [if_neg ex] at hx
                obtain ⟨j, e', lj, hj, ee⟩ := hk x hx
                exact ⟨j, e', Nat.lt_succ_of_lt lj, hj, ee⟩
            · rw [putK_new _ nw, List.length_append]
              exact Nat.succ_le_succ lk
      · rintro σ G ⟨y2, y3, rfl, k, _⟩
        exact q G k
    · refine .inr ⟨_, rfl, a, xs, rfl, SqT.of (k0 _ _ hs), PSE.for_enumT (xs := xs) (fun i σ G => ∃ y2 y3, σ = [some (.ref a), some (.ref D), y2, y3] ∧ Same H G ∧ ∃ kvs : List (Key × V), G D = some (.dK kvs) ∧ (∀ x : Str, (valV kvs (Sum.inr x)).isSome = true → ∃ j e, j < i ∧ E[j]? = some e ∧ e.1 = x) ∧ kvs.length ≤ i) ⟨none, none, rfl, k0, [], upd_same, (fun x z => by cases z), Nat.le_refl _⟩ (fun i σ G ⟨_, _, _, k, _⟩ => SqT.of (k _ _ hs)) ?_ ?_⟩
      · rintro i x σ G T hx ⟨y2, y3, rfl, k, kvs, aD, hk, lk⟩ hT
        obtain ⟨e, he, b, rfl, hb⟩ := c.at hx
        have lt : i < E.length := (List.getElem?_eq_some_iff.mp he).1
        have nTD : D ≠ T := ne_of_none aD hT
        have aD1 : upd G T (.tup [.int (i : Nat), .ref b]) D = some (.dK kvs) := (upd_ne nTD).trans aD
        have kT : Same H (upd G T (.tup [.int (i : Nat), .ref b])) := k.trans (same_new hT)
        refine ⟨T, _, rfl, SqT.of upd_same, rfl, _, _, rfl, _, _, rfl, rfl, ?_⟩
        generalize upd G T (.tup [.int (i : Nat), .ref b]) = G1 at aD1 kT ⊢
        have col := hE.col e (List.mem_of_getElem? he)
        have nw : valV kvs (Sum.inr e.1) = none := by
          cases h0 : valV kvs (Sum.inr e.1) with
          | none => rfl
          | some v0 =>
            obtain ⟨j, e', lj, hj, ee⟩ := hk e.1 (by rw [h0]; rfl)
            have lt2 : j < E.length := by omega
            have m1 : (E.map (·.1))[j]? = some e.1 := by rw [List.getElem?_map, hj]; exact congrArg some ee
            have m2 : (E.map (·.1))[i]? = some e.1 := by rw [List.getElem?_map, he]; rfl
            have := (List.getElem?_inj (by rw [List.length_map]; exact lt2) hE.nd).mp (m1.trans m2.symm)
            omega
        refine ⟨_, rfl, .ref b, e, rfl, ⟨b, rfl, kT _ _ hb⟩, col, fun H2 s2 => ⟨_, rfl, ite2 (fun e2 => ?_) (fun e2 => ?_)⟩⟩
        · cases e2
        · have k2 := kT.trans s2
          have aD2 := s2 _ _ aD1
          refine ⟨_, rfl, b, _, 0, _, rfl, rfl, SqT.of (k2 _ _ hb), rfl, _, rfl, D, _, rfl, DGet.k (k := Sum.inr e.1) aD2, _, rfl, ite2 (fun e3 => ?_) (fun e3 => ?_)⟩
          · rw [nw] at e3
            cases e3
          · refine ⟨_, rfl, _, rfl, b, _, 0, _, rfl, rfl, SqT.of (k2 _ _ hb), rfl, D, _, rfl, DPut.k (k := Sum.inr e.1) aD2 (small1000 (by omega)), ?_⟩
            refine ⟨_, _, rfl, fun b o e => (upd_ne (ne_of_none e hD)).trans (k2 _ _ e), _, upd_same, fun x hx => ?_, ?_⟩
            · rw [valV_put] at hx
              by_cases ex : (Sum.inr x : Key) = Sum.inr e.1
              · exact ⟨i, e, Nat.lt_succ_self _, he, (Sum.inr.inj ex).symm⟩
              · rw [if_neg ex] at hx
                obtain ⟨j, e', lj, hj, ee⟩ := hk x hx
                exact ⟨j, e', Nat.lt_succ_of_lt lj, hj, ee⟩
            · rw [putK_new _ nw, List.length_append]
              exact Nat.succ_le_succ lk
      · rintro σ G ⟨y2, y3, rfl, k, _⟩
        exact q G k
end
end K19

set_option Elab.async false
set_option linter.all false
set_option maxRecDepth 100000
set_option maxHeartbeats 8000000
namespace K19
open PySem PySem.Spec L2 PSG PSS
open PyProof.Rows (IntsAre AllBare)
abbrev s_is_count : Stmt := topS 5
theorem sc_is_count : FnScope ["value"] ["value"] (defScope s_is_count) := ⟨rfl, rfl, rfl, by decide +kernel, rfl, by decide +kernel, by decide +kernel⟩
abbrev s_is_sign : Stmt := topS 6
theorem sc_is_sign : FnScope ["value"] ["value"] (defScope s_is_sign) := ⟨rfl, rfl, rfl, by decide +kernel, rfl, by decide +kernel, by decide +kernel⟩
abbrev s_is_vector : Stmt := topS 33
theorem sc_is_vector : FnScope ["value", "sign"] ["value"] (defScope s_is_vector) := ⟨rfl, rfl, rfl, by decide +kernel, rfl, by decide +kernel, by decide +kernel⟩
abbrev s_turned : Stmt := topS 34
theorem sc_turned : FnScope ["vector", "sign"] ["vector"] (defScope s_turned) := ⟨rfl, rfl, rfl, by decide +kernel, rfl, by decide +kernel, by decide +kernel⟩
abbrev s_sign_text : Stmt := topS 35
theorem sc_sign_text : FnScope ["sign"] ["sign"] (defScope s_sign_text) := ⟨rfl, rfl, rfl, by decide +kernel, rfl, by decide +kernel, by decide +kernel⟩
abbrev s_vector_text : Stmt := topS 36
theorem sc_vector_text : FnScope ["vector", "sign"] ["vector"] (defScope s_vector_text) := ⟨rfl, rfl, rfl, by decide +kernel, rfl, by decide +kernel, by decide +kernel⟩
abbrev s_read_sign : Stmt := topS 37
theorem sc_read_sign : FnScope ["text"] ["text"] (defScope s_read_sign) := ⟨rfl, rfl, rfl, by decide +kernel, rfl, by decide +kernel, by decide +kernel⟩
abbrev s_read_vector : Stmt := topS 38
theorem sc_read_vector : FnScope ["text", "vector", "letter"] ["text"] (defScope s_read_vector) := ⟨rfl, rfl, rfl, by decide +kernel, rfl, by decide +kernel, by decide +kernel⟩

def three : Str := "-0+"
structure Cst3 (mg : Str → Option Value) : Prop where
  c_SIGN_TEXTS : ∃ t, mg "SIGN_TEXTS" = some (.str three t)
def Small (is : List Int) : Prop := ∀ i ∈ is, -1 ≤ i ∧ i ≤ 1
theorem small_neg {is : List Int} (h : Small is) : Small (is.map fun i => -i) := fun i hi => by
  obtain ⟨j, hj, rfl⟩ := List.mem_map.mp hi
  have := h j hj
  omega
theorem ints_dt {far : Bool} {H : Hp} : ∀ is : List Int, DtAll far H (is.map V.int) (is.map PyData.int)
  | [] => .nil
  | i :: is => .cons (.int i) (ints_dt is)
def codeOf (i : Int) : Nat := if i = -1 then 45 else if i = 0 then 48 else 43
def signText (is : List Int) : Str := ⟨(is.map codeOf).toArray⟩
theorem join_codes : ∀ cs : List Nat, Str.join "" (cs.map fun c => (⟨#[c]⟩ : Str)) = ⟨cs.toArray⟩
  | [] => rfl
  | [c] => rfl
  | c :: d :: r => by
    have ih := join_codes (d :: r)
    have e : Str.join "" ((c :: d :: r).map fun c => (⟨#[c]⟩ : Str)) = ⟨#[c]⟩ ++ "" ++ Str.join "" ((d :: r).map fun c => (⟨#[c]⟩ : Str)) := rfl
    rw [e, ih]
    show (⟨#[c] ++ #[] ++ (d :: r).toArray⟩ : Str) = _
    simp
def rsg (c : Nat) : Int := Txt.find three ⟨#[c]⟩ - 1
theorem rsg_code (i : Int) (h : -1 ≤ i ∧ i ≤ 1) : rsg (codeOf i) = i := by
  have e : i = -1 ∨ i = 0 ∨ i = 1 := by omega
  rcases e with rfl | rfl | rfl <;> decide +kernel
def readS (x : Str) : List Int := x.cps.toList.map rsg
theorem read_text {is : List Int} (h : Small is) : readS (signText is) = is := by
  show ((is.map codeOf).toArray.toList).map rsg = is
  rw [List.map_map]
  have e : ∀ l : List Int, Small l → l.map (rsg ∘ codeOf) = l := fun l => by
    induction l with
    | nil => exact fun _ => rfl
    | cons i l ih =>
      intro s
      rw [List.map_cons, ih fun j m => s j (List.mem_cons_of_mem _ m)]
      exact congrArg (· :: l) (rsg_code i (s i List.mem_cons_self))
  exact e is h
theorem text_len (is : List Int) : (signText is).cps.size = is.length := by
  show (is.map codeOf).toArray.size = _
  rw [List.size_toArray, List.length_map]
section
variable {P : Program} {w : World} {K : PySem.W.Frag} {mg : Str → Option Value} {base : Heap}
def spCount : Sp := fun vs H Q _ => ∃ n : Nat, vs = [.int n] ∧ ∀ H', Same H H' → Q (.bl true) H'
theorem ok_count {f f1 : Addr} {fd d1 : FuncData} (F : Fun K "is_count" "is_count" s_is_count f fd) (T : Blt mg) (F_is_integer : Fun K "is_integer" "is_integer" s_is_integer f1 d1) (b_is_integer : Binds K d1 ["value"] []) (g_is_integer : mg "is_integer" = some (.ref f1)) :
    FnOk P w K mg base CX0 2 f fd ["value"] spCount := by
  have sc := sc_is_count
  have G_is_integer : FnOk P w K mg base CX0 1 f1 d1 ["value"] _ := ok_int F_is_integer T
  refine F.ok sc (fun vs H Q E h => ?_) (fun cdv A outer s H vs Q E hr h => ?_)
  · obtain ⟨n, rfl, _⟩ := h
    rfl
  · obtain ⟨n, rfl, q⟩ := h
    refine ⟨_, (pss_one (ps_ret (pe_and (pe_call G_is_integer (hr.mono (by decide)) (by rfl) g_is_integer F_is_integer.kp b_is_integer .nil pass0 (pa_cons (pv 0) pa_nil)) (pe_one (pe_cmpR op_ge (pv 0) pe_int (nomark _)))))), ?_⟩
    refine ⟨_, rfl, .int (n : Int), .int (n : Int), rfl, .int _, ⟨fun x e => nomatch e⟩, fun H1 s1 => ⟨_, rfl, iteT ?_⟩⟩
    refine ⟨_, rfl, _, _, rfl, rfl, ?_⟩
    have e : decide ((n : Int) ≥ 0) = true := decide_eq_true (by omega)
    have q' := q H1 s1
    rw [← e] at q'
    exact q'
def spSgn : Sp := fun vs H Q _ => ∃ i : Int, vs = [.int i] ∧ (-1 ≤ i ∧ i ≤ 1) ∧ ∀ H', Same H H' → Q (.bl true) H'
theorem ok_sgn {f f1 : Addr} {fd d1 : FuncData} (F : Fun K "is_sign" "is_sign" s_is_sign f fd) (T : Blt mg) (F_is_integer : Fun K "is_integer" "is_integer" s_is_integer f1 d1) (b_is_integer : Binds K d1 ["value"] []) (g_is_integer : mg "is_integer" = some (.ref f1)) :
    FnOk P w K mg base CX0 2 f fd ["value"] spSgn := by
  have sc := sc_is_sign
  have G_is_integer : FnOk P w K mg base CX0 1 f1 d1 ["value"] _ := ok_int F_is_integer T
  refine F.ok sc (fun vs H Q E h => ?_) (fun cdv A outer s H vs Q E hr h => ?_)
  · obtain ⟨i, rfl, _⟩ := h
    rfl
  · obtain ⟨i, rfl, si, q⟩ := h
    refine ⟨_, (pss_one (ps_ret (pe_and (pe_call G_is_integer (hr.mono (by decide)) (by rfl) g_is_integer F_is_integer.kp b_is_integer .nil pass0 (pa_cons (pv 0) pa_nil)) (pe_one (pe_chain op_le op_le (pe_un un_neg pe_int) (pv 0) pe_int))))), ?_⟩
    refine ⟨_, rfl, .int i, .int i, rfl, .int _, ⟨fun x e => nomatch e⟩, fun H1 s1 => ⟨_, rfl, iteT ?_⟩⟩
    have q' := q H1 s1
    refine ⟨_, rfl, _, rfl, _, _, rfl, rfl, _, rfl, ite2 (fun e1 => ?_) (fun e1 => ?_)⟩
    · refine ⟨_, _, rfl, rfl, ?_⟩
      have e : decide (i ≤ 1) = true := decide_eq_true si.2
      rw [← e] at q'
      exact q'
    · exact absurd (decide_eq_true si.1 : decide (-1 ≤ i) = true) e1
/-- a vector stands at a -/
def VecAt (H : Hp) (a : Addr) (is : List Int) : Prop := H a = some (.tup (is.map V.int)) ∧ Small is ∧ is.length ≤ 21
def spVec : Sp := fun vs H Q _ => ∃ a is, vs = [.ref a] ∧ VecAt H a is ∧ ∀ H', Same H H' → Q (.bl true) H'
theorem ok_vec {f f1 : Addr} {fd d1 : FuncData} (F : Fun K "is_vector" "is_vector" s_is_vector f fd) (T : Blt mg) (F_is_sign : Fun K "is_sign" "is_sign" s_is_sign f1 d1) (b_is_sign : Binds K d1 ["value"] []) (g_is_sign : mg "is_sign" = some (.ref f1)) (G_is_sign : FnOk P w K mg base CX0 2 f1 d1 ["value"] spSgn) :
    FnOk P w K mg base CX0 3 f fd ["value"] spVec := by
  have sc := sc_is_vector
  refine F.ok sc (fun vs H Q E h => ?_) (fun cdv A outer s H vs Q E hr h => ?_)
  · obtain ⟨a, is, rfl, _⟩ := h
    rfl
  · obtain ⟨a, is, rfl, ⟨ha, sm, few⟩, q⟩ := h
    refine ⟨_, (pss_one (ps_ret (pe_and (pe_callB call_isi (by rfl) T.n_isinstance (by decide +kernel) (pa_cons (pv 0) (pa_cons (pe_bltn (v := .ty "tuple") (by rfl) T.n_tuple (by decide +kernel) rfl) pa_nil))) (pe_one (pe_callB (cr_all rfl) (by rfl) T.n_all (by decide +kernel) (pa_cons (pe_lc (own := [("sign", 1)]) (g := gName 1) (tt := tYes) (by rfl) sc.nd (pi_tup (pv 0)) (blkOk_by (own := [("sign", 1)]) (N := ["value", "sign"]) (sc := defScope s_is_vector) (by decide +kernel)) (fun _ _ _ _ _ => pg_name (i := 1) sc.nd rfl (Or.inl rfl)) (fun _ _ _ _ _ => pts_nil) (fun _ _ _ _ _ => (pe_call G_is_sign (hr.mono (by decide)) (by rfl) g_is_sign F_is_sign.kp b_is_sign .nil pass0 (pa_cons (pv 1) pa_nil)))) pa_nil)))))), ?_⟩
    have hd : Dt true H (.ref a) (.tuple (is.map PyData.int)) := .tup ha (ints_dt _)
    refine ⟨_, rfl, .ref a, .ty "tuple", _, _, _, rfl, .ty _, Dt.ty hd, kit_tuple _, _, rfl, iteT ?_⟩
    refine ⟨_, rfl, a, rfl, ⟨_, SqT.of ha⟩, fun p hp => lc_tup (xs := is.map V.int) (fun j G => Same H G ∧ G p = some (.lst ((List.replicate j true).map V.bl))) ⟨same_new hp, upd_same⟩ (fun j G _ h => SqT.of (h.1 _ _ ha)) ?_ ?_⟩
    · rintro i x G hx ⟨k, at_⟩
      rw [List.getElem?_map] at hx
      cases hi : is[i]? with
      | none => rw [hi] at hx; cases hx
      | some z =>
        rw [hi] at hx
        cases hx
        have il : i < is.length := (List.getElem?_eq_some_iff.mp hi).1
        refine ⟨rfl, ?_⟩
        refine ⟨_, rfl, z, rfl, sm z (List.mem_of_getElem? hi), fun G1 s1 => ⟨_, s1 _ _ at_, ?_, fun b o e => (upd_ne (ne_of_none e hp)).trans (s1 _ _ (k _ _ e)), ?_⟩⟩
        · rw [List.length_map, List.length_replicate, sizeLine_eq]
          omega
        · rw [upd_same, List.replicate_succ', List.map_append]
          rfl
    · rintro G ⟨k, at_⟩
      refine ⟨p, _, rfl, SqL.of at_, ?_⟩
      have q' := q G k
      have e : ∀ n : Nat, (List.replicate n true).all id = true := fun n => by
        rw [List.all_eq_true]
        intro b hb
        rw [(List.mem_replicate.mp hb).2]
        rfl
      rw [e]
      exact q'
def spSignText : Sp := fun vs H Q _ => ∃ i : Int, vs = [.int i] ∧ -1 ≤ i ∧ i ≤ 1 ∧ Q (.str ⟨#[codeOf i]⟩) H
theorem ok_sign_text {f : Addr} {fd : FuncData} (F : Fun K "sign_text" "sign_text" s_sign_text f fd) (U : Cst3 mg) : FnOk P w K mg base CX0 1 f fd ["sign"] spSignText := by
  have sc := sc_sign_text
  obtain ⟨tS, cS⟩ := U.c_SIGN_TEXTS
  refine F.ok sc (fun vs H Q E h => ?_) (fun cdv A outer s H vs Q E hr h => ?_)
  · obtain ⟨i, rfl, _⟩ := h
    rfl
  · obtain ⟨i, rfl, l1, l2, q⟩ := h
    refine ⟨_, (pss_one (ps_ret (pe_ix ix_str (pe_glob (v := .str three) (by rfl) cS ⟨_, rfl⟩) (pe_op op_add (pv 0) pe_int) (fun _ _ => rfl)))), ?_⟩
    have e : i = -1 ∨ i = 0 ∨ i = 1 := by omega
    have ln : three.length ≤ sizeLine := by rw [show three.length = 3 by decide +kernel, sizeLine_eq]; decide
    rcases e with rfl | rfl | rfl
    · exact ⟨_, rfl, _, _, rfl, rfl, three, _, 45, rfl, rfl, ln, (by decide +kernel), q⟩
    · exact ⟨_, rfl, _, _, rfl, rfl, three, _, 48, rfl, rfl, ln, (by decide +kernel), q⟩
    · exact ⟨_, rfl, _, _, rfl, rfl, three, _, 43, rfl, rfl, ln, (by decide +kernel), q⟩
def spReadSign : Sp := fun vs H Q _ => ∃ c : Nat, vs = [.str ⟨#[c]⟩] ∧ Q (.int (rsg c)) H
theorem ok_read_sign {f : Addr} {fd : FuncData} (F : Fun K "read_sign" "read_sign" s_read_sign f fd) (U : Cst3 mg) : FnOk P w K mg base CX0 1 f fd ["text"] spReadSign := by
  have sc := sc_read_sign
  obtain ⟨tS, cS⟩ := U.c_SIGN_TEXTS
  refine F.ok sc (fun vs H Q E h => ?_) (fun cdv A outer s H vs Q E hr h => ?_)
  · obtain ⟨c, rfl, _⟩ := h
    rfl
  · obtain ⟨c, rfl, q⟩ := h
    refine ⟨_, (pss_one (ps_ret (pe_op op_sub (pe_m1 PySem.F.slot_str_find PySem.F.type_str_find mt_find (pe_glob (v := .str three) (by rfl) cS ⟨_, rfl⟩) (pv 0)) pe_int))), ?_⟩
    exact ⟨⟨_, rfl⟩, _, rfl, three, ⟨#[c]⟩, rfl, rfl, _, _, rfl, rfl, q⟩
def spTurned : Sp := fun vs H Q _ => ∃ a is, vs = [.ref a] ∧ VecAt H a is ∧ ∀ p H', Same H H' → H' p = some (.tup ((is.map fun i => -i).map V.int)) → Q (.ref p) H'
theorem ok_turned {f f1 : Addr} {fd d1 : FuncData} (F : Fun K "turned" "turned" s_turned f fd) (T : Blt mg)
    (F_is_vector : Fun K "is_vector" "is_vector" s_is_vector f1 d1) (b_is_vector : Binds K d1 ["value"] []) (g_is_vector : mg "is_vector" = some (.ref f1)) (G_is_vector : FnOk P w K mg base CX0 3 f1 d1 ["value"] spVec) :
    FnOk P w K mg base CX0 4 f fd ["vector"] spTurned := by
  have sc := sc_turned
  refine F.ok sc (fun vs H Q E h => ?_) (fun cdv A outer s H vs Q E hr h => ?_)
  · obtain ⟨a, is, rfl, _⟩ := h
    rfl
  · obtain ⟨b, is, rfl, ⟨hb, sm, few⟩, q1⟩ := h
    refine ⟨_, (pss_cons (ps_if (pt_not (pt_val (pe_call G_is_vector (hr.mono (by decide)) (by rfl) g_is_vector F_is_vector.kp b_is_vector .nil pass0 (pa_cons (pv 0) pa_nil)))) (pss_one ps_never) pss_nil)
      (pss_one (ps_ret (pe_callTy call_tuple_of (by rfl) T.n_tuple (by decide +kernel) (pa_cons (pe_lc (own := [("sign", 1)]) (g := gName 1) (tt := tYes) (by rfl) sc.nd (pi_tup (pv 0)) (blkOk_by (own := [("sign", 1)]) (N := ["vector", "sign"]) (sc := defScope s_turned) (by decide +kernel)) (fun _ _ _ _ _ => pg_name (i := 1) sc.nd rfl (Or.inl rfl)) (fun _ _ _ _ _ => pts_nil) (fun _ _ _ _ _ => (pe_un un_neg (pv 1)))) pa_nil))))), ?_⟩
    refine ⟨_, rfl, b, is, rfl, ⟨hb, sm, few⟩, fun H1 s1 => ⟨_, rfl, iteF ?_⟩⟩
    refine ⟨_, rfl, b, rfl, ⟨_, SqT.of (s1 _ _ hb)⟩, fun p hp => lc_tup (xs := is.map V.int) (fun j G => Same H1 G ∧ G p = some (.lst (((is.map fun i => -i).take j).map V.int))) ⟨same_new hp, upd_same⟩ (fun j G _ h => SqT.of (h.1 _ _ (s1 _ _ hb))) ?_ ?_⟩
    · rintro i x G hx ⟨k, at_⟩
      rw [List.getElem?_map] at hx
      cases hi : is[i]? with
      | none =>
        rw [hi] at hx
        cases hx
      | some z =>
        rw [hi] at hx
        cases hx
        refine ⟨rfl, ?_⟩
        refine ⟨_, rfl, _, rfl, _, at_, ?_, fun b' o z' => (upd_ne (ne_of_none z' hp)).trans (k _ _ z'), ?_⟩
        · rw [List.length_map, List.length_take, List.length_map, sizeLine_eq]
          omega
        · have e2 : (is.map fun i => -i)[i]? = some (-z) := by rw [List.getElem?_map, hi]; rfl
          rw [upd_same, List.take_add_one, e2, List.map_append]
          rfl
    · rintro G ⟨k, at_⟩
      have el : (is.map fun i => -i).length = (is.map V.int).length := by rw [List.length_map, List.length_map]
      rw [← el, List.take_length] at at_
      refine ⟨p, _, rfl, .inl ⟨SqL.of at_, fun l hl => q1 l _ (s1.trans (k.trans (same_new hl))) upd_same⟩⟩
def spText : Sp := fun vs H Q _ => ∃ a is, vs = [.ref a] ∧ VecAt H a is ∧ ∀ H', Same H H' → Q (.str (signText is)) H'
theorem ok_text {f f1 f2 : Addr} {fd d1 d2 : FuncData} (F : Fun K "vector_text" "vector_text" s_vector_text f fd) (T : Blt mg) (U : Cst3 mg)
    (F_is_vector : Fun K "is_vector" "is_vector" s_is_vector f1 d1) (b_is_vector : Binds K d1 ["value"] []) (g_is_vector : mg "is_vector" = some (.ref f1)) (G_is_vector : FnOk P w K mg base CX0 3 f1 d1 ["value"] spVec)
    (F_sign_text : Fun K "sign_text" "sign_text" s_sign_text f2 d2) (b_sign_text : Binds K d2 ["sign"] []) (g_sign_text : mg "sign_text" = some (.ref f2)) :
    FnOk P w K mg base CX0 4 f fd ["vector"] spText := by
  have sc := sc_vector_text
  have G_sign_text : FnOk P w K mg base CX0 1 f2 d2 ["sign"] _ := ok_sign_text F_sign_text U
  refine F.ok sc (fun vs H Q E h => ?_) (fun cdv A outer s H vs Q E hr h => ?_)
  · obtain ⟨a, is, rfl, _⟩ := h
    rfl
  · obtain ⟨b, is, rfl, ⟨hb, sm, few⟩, q1⟩ := h
    refine ⟨_, (pss_cons (ps_if (pt_not (pt_val (pe_call G_is_vector (hr.mono (by decide)) (by rfl) g_is_vector F_is_vector.kp b_is_vector .nil pass0 (pa_cons (pv 0) pa_nil)))) (pss_one ps_never) pss_nil)
      (pss_one (ps_ret (pe_join pe_str (pe_lc (own := [("sign", 1)]) (g := gName 1) (tt := tYes) (by rfl) sc.nd (pi_tup (pv 0)) (blkOk_by (own := [("sign", 1)]) (N := ["vector", "sign"]) (sc := defScope s_vector_text) (by decide +kernel)) (fun _ _ _ _ _ => pg_name (i := 1) sc.nd rfl (Or.inl rfl)) (fun _ _ _ _ _ => pts_nil) (fun _ _ _ _ _ => (pe_call G_sign_text (hr.mono (by decide)) (by rfl) g_sign_text F_sign_text.kp b_sign_text .nil pass0 (pa_cons (pv 1) pa_nil)))))))), ?_⟩
    refine ⟨_, rfl, b, is, rfl, ⟨hb, sm, few⟩, fun H1 s1 => ⟨_, rfl, iteF ?_⟩⟩
    refine ⟨⟨_, rfl⟩, _, rfl, b, rfl, ⟨_, SqT.of (s1 _ _ hb)⟩, ?_⟩
    refine fun p hp => lc_tup (xs := is.map V.int) (fun j G => Same H1 G ∧ G p = some (.lst (((is.map fun i => (⟨#[codeOf i]⟩ : Str)).take j).map V.str))) ⟨same_new hp, upd_same⟩ (fun j G _ h => SqT.of (h.1 _ _ (s1 _ _ hb))) ?_ ?_
    · rintro i x G hx ⟨k, at_⟩
      rw [List.getElem?_map] at hx
      cases hi : is[i]? with
      | none =>
        rw [hi] at hx
        cases hx
      | some z =>
        rw [hi] at hx
        cases hx
        have sz := sm z (List.mem_of_getElem? hi)
        refine ⟨rfl, ?_⟩
        refine ⟨_, rfl, z, rfl, sz.1, sz.2, _, at_, ?_, fun b' o z' => (upd_ne (ne_of_none z' hp)).trans (k _ _ z'), ?_⟩
        · rw [List.length_map, List.length_take, List.length_map, sizeLine_eq]
          omega
        · have e2 : (is.map fun i => (⟨#[codeOf i]⟩ : Str))[i]? = some ⟨#[codeOf z]⟩ := by rw [List.getElem?_map, hi]; rfl
          rw [upd_same, List.take_add_one, e2, List.map_append]
          rfl
    · rintro G ⟨k, at_⟩
      have el : (is.map fun i => (⟨#[codeOf i]⟩ : Str)).length = (is.map V.int).length := by rw [List.length_map, List.length_map]
      rw [← el, List.take_length] at at_
      refine ⟨"", p, is.map fun i => (⟨#[codeOf i]⟩ : Str), rfl, rfl, .inl (SqL.of at_), ?_, ?_⟩
      · have one : ∀ l : List Int, ((l.map fun i => (⟨#[codeOf i]⟩ : Str)).map (·.length)).sum = l.length := fun l => by
          induction l with
          | nil => rfl
          | cons c l ih =>
            rw [List.map_cons, List.map_cons, List.sum_cons, ih, List.length_cons]
            show 1 + l.length = _
            omega
        have e0 : ("" : Str).length = 0 := rfl
        rw [one, e0]
        omega
      · rw [TL.join_eq]
        have e := join_codes (is.map codeOf)
        rw [List.map_map] at e
        have q' := q1 G (s1.trans k)
        unfold signText at q'
        rw [← e] at q'
        exact q'
def spRead : Sp := fun vs H Q _ => ∃ is, vs = [.str (signText is)] ∧ Small is ∧ is.length ≤ 21 ∧ ∀ p H', Same H H' → H' p = some (.tup (is.map V.int)) → Q (.ref p) H'
theorem ok_read {f f1 f2 : Addr} {fd d1 d2 : FuncData} (F : Fun K "read_vector" "read_vector" s_read_vector f fd) (T : Blt mg) (U : Cst3 mg)
    (F_is_vector : Fun K "is_vector" "is_vector" s_is_vector f1 d1) (b_is_vector : Binds K d1 ["value"] []) (g_is_vector : mg "is_vector" = some (.ref f1)) (G_is_vector : FnOk P w K mg base CX0 3 f1 d1 ["value"] spVec)
    (F_read_sign : Fun K "read_sign" "read_sign" s_read_sign f2 d2) (b_read_sign : Binds K d2 ["text"] []) (g_read_sign : mg "read_sign" = some (.ref f2)) :
    FnOk P w K mg base CX0 4 f fd ["text"] spRead := by
  have sc := sc_read_vector
  have G_read_sign : FnOk P w K mg base CX0 1 f2 d2 ["text"] _ := ok_read_sign F_read_sign U
  refine F.ok sc (fun vs H Q E h => ?_) (fun cdv A outer s H vs Q E hr h => ?_)
  · obtain ⟨is, rfl, _⟩ := h
    rfl
  · obtain ⟨is, rfl, sma, few, q1⟩ := h
    refine ⟨_, (pss_cons (ps_if (pt_not (pt_val (pe_callB call_isi (by rfl) T.n_isinstance (by decide +kernel) (pa_cons (pv 0) (pa_cons (pe_bltn (v := .ty "str") (by rfl) T.n_str (by decide +kernel) rfl) pa_nil))))) (pss_one ps_never) pss_nil)
      (pss_cons (ps_set (i := 1) sc.nd rfl (.inl rfl) (pe_callTy call_tuple_of (by rfl) T.n_tuple (by decide +kernel) (pa_cons (pe_lc (own := [("letter", 2)]) (g := gName 2) (tt := tYes) (by rfl) sc.nd (pi_str (pv 0)) (blkOk_by (own := [("letter", 2)]) (N := ["text", "vector", "letter"]) (sc := defScope s_read_vector) (by decide +kernel)) (fun _ _ _ _ _ => pg_name (i := 2) sc.nd rfl (Or.inl rfl)) (fun _ _ _ _ _ => pts_nil) (fun _ _ _ _ _ => (pe_call G_read_sign (hr.mono (by decide)) (by rfl) g_read_sign F_read_sign.kp b_read_sign .nil pass0 (pa_cons (pv 2) pa_nil)))) pa_nil)))
      (pss_cons (ps_if (pt_not (pt_val (pe_call G_is_vector (hr.mono (by decide)) (by rfl) g_is_vector F_is_vector.kp b_is_vector .nil pass0 (pa_cons (pv 1) pa_nil)))) (pss_one ps_never) pss_nil)
      (pss_one (ps_ret (pv 1)))))), ?_⟩
    have hx := read_text sma
    have hl := text_len is
    generalize signText is = x at hx hl ⊢
    have hd : Dt true H (.str x) (.str x) := .str x
    refine ⟨_, rfl, .str x, .ty "str", _, _, _, rfl, .ty _, Dt.ty hd, kit_str _, _, rfl, iteF ?_⟩
    have rl : (readS x).length = x.cps.size := by
      unfold readS
      rw [List.length_map, Array.length_toList]
    have e3 : x.cps.size ≤ 21 := by omega
    refine ⟨_, rfl, x, rfl, fun p hp => lc_str (fun j G => Same H G ∧ G p = some (.lst (((readS x).take j).map V.int))) ⟨same_new hp, upd_same⟩ ?_ ?_⟩
    · rintro i c G hc ⟨sm, at_⟩
      refine ⟨rfl, ?_⟩
      refine ⟨_, rfl, c, rfl, _, at_, ?_, fun b o z => (upd_ne (ne_of_none z hp)).trans (sm _ _ z), ?_⟩
      · rw [List.length_map, List.length_take, rl, sizeLine_eq]
        omega
      · have e2 : (readS x)[i]? = some (rsg c) := by
          unfold readS
          rw [List.getElem?_map, Array.getElem?_toList, hc]
          rfl
        rw [upd_same, List.take_add_one, e2, List.map_append]
        rfl
    · rintro G ⟨sm, at_⟩
      rw [← rl, List.take_length, hx] at at_
      refine ⟨p, _, rfl, .inl ⟨SqL.of at_, fun l hl => ?_⟩⟩
      have s2 := sm.trans (same_new (o := .tup (is.map V.int)) hl)
      have al : upd G l (.tup (is.map V.int)) l = some (.tup (is.map V.int)) := upd_same
      generalize upd G l (.tup (is.map V.int)) = G2 at s2 al ⊢
      refine ⟨_, rfl, l, is, rfl, ⟨al, sma, few⟩, fun G3 s3 => ⟨_, rfl, iteF ?_⟩⟩
      exact ⟨_, rfl, q1 l G3 (s2.trans s3) (s3 _ _ al)⟩
end
end K19

set_option Elab.async false
set_option linter.all false
set_option maxRecDepth 100000
set_option maxHeartbeats 8000000
namespace K19
open PySem PySem.Spec L2 PSG PSS
open PyProof.Rows (IntsAre AllBare)
abbrev s_signs_fit : Stmt := topS 26
theorem sc_signs_fit : FnScope ["one", "other", "both"] ["one", "other", "both"] (defScope s_signs_fit) := ⟨rfl, rfl, rfl, by decide +kernel, rfl, by decide +kernel, by decide +kernel⟩
abbrev s_pair_sign : Stmt := topS 25
theorem sc_pair_sign : FnScope ["ranks", "first", "second"] ["ranks", "first", "second"] (defScope s_pair_sign) := ⟨rfl, rfl, rfl, by decide +kernel, rfl, by decide +kernel, by decide +kernel⟩
abbrev s_weak_order_of : Stmt := topS 24
theorem sc_weak_order_of : FnScope ["values", "value", "ranks", "rank"] ["values"] (defScope s_weak_order_of) := ⟨rfl, rfl, rfl, by decide +kernel, rfl, by decide +kernel, by decide +kernel⟩

section
variable {P : Program} {w : World} {K : PySem.W.Frag} {mg : Str → Option Value} {base : Heap}
/-- three signs fit -/
def fits (a b c : Int) : Bool := if a = 0 then decide (c = b) else if b = 0 ∨ b = a then decide (c = a) else true
def spFit : Sp := fun vs H Q _ => ∃ a b c : Int, vs = [.int a, .int b, .int c] ∧ ∀ H', Same H H' → Q (.bl (fits a b c)) H'
theorem ok_fit {f : Addr} {fd : FuncData} (F : Fun K "signs_fit" "signs_fit" s_signs_fit f fd) : FnOk P w K mg base CX0 1 f fd ["one", "other", "both"] spFit := by
  have sc := sc_signs_fit
  refine F.ok sc (fun vs H Q E h => ?_) (fun cdv A outer s H vs Q E hr h => ?_)
  · obtain ⟨a, b, c, rfl, _⟩ := h
    rfl
  · obtain ⟨a, b, c, rfl, q⟩ := h
    refine ⟨_, (pss_cons (ps_if (pt_cmpR op_eq (pv 0) pe_int (nomark _)) (pss_one (ps_ret (pe_cmpR op_eq (pv 2) (pv 1) (nomark _)))) pss_nil)
      (pss_cons (ps_if (pt_cmpR op_in_seq (pv 1) (pe_tup (pa_cons pe_int (pa_cons (pv 0) pa_nil))) (by first | exact nomark _ | rfl)) (pss_one (ps_ret (pe_cmpR op_eq (pv 2) (pv 0) (nomark _)))) pss_nil)
      (pss_one (ps_ret pe_bl)))), ?_⟩
    have dec : ∀ i j : Int, decide (V.int i = V.int j) = decide (i = j) := fun i j => decide_eq_decide.mpr ⟨fun z => V.int.inj z, fun z => congrArg V.int z⟩
    refine ⟨_, rfl, rfl, _, rfl, ite2 (fun e => ?_) (fun e => ?_)⟩
    · rw [dec] at e
      have e := of_decide_eq_true e
      have q' := q H (Same.refl _)
      unfold fits at q'
      rw [if_pos e] at q'
      refine ⟨_, rfl, _, rfl, rfl, ?_⟩
      rw [dec]
      exact q'
    · rw [dec] at e
      have e : ¬ a = 0 := fun z => e (decide_eq_true z)
      refine ⟨_, rfl, _, rfl, (by show 2 ≤ sizeLine; decide), fun p hp => ?_⟩
      have sp := same_new (o := .tup [.int 0, .int a]) hp
      have ein : inV (.int b) [.int 0, .int a] = decide (b = 0 ∨ b = a) := by
        show ((0 == b) || ((a == b) || false)) = _
        rw [Bool.eq_iff_iff]
        simp only [Bool.or_eq_true, beq_iff_eq, Bool.false_eq_true, or_false, decide_eq_true_eq]
        exact or_congr eq_comm eq_comm
      have q' := q _ sp
      unfold fits at q'
      rw [if_neg e] at q'
      refine ⟨p, [.int 0, .int a], rfl, .inr (SqT.of upd_same), rfl, rfl, _, rfl, ite2 (fun e2 => ?_) (fun e2 => ?_)⟩
      · rw [if_neg Bool.false_ne_true, ein] at e2
        rw [if_pos (of_decide_eq_true e2)] at q'
        refine ⟨_, rfl, _, rfl, rfl, ?_⟩
        rw [dec]
        exact q'
      · rw [if_neg Bool.false_ne_true, ein] at e2
        rw [if_neg (fun z => e2 (decide_eq_true z))] at q'
        exact q'
/-- the sign of two ranks -/
def spPairSign : Sp := fun vs H Q _ => ∃ (a : Addr) (ns : List Int) (i j : Nat) (x y : Int), vs = [.ref a, .int i, .int j] ∧ H a = some (.tup (ns.map V.int)) ∧ ns[i]? = some x ∧ ns[j]? = some y ∧ Q (.int (sgn (.int x) (.int y))) H
theorem ok_pair_sign {f f1 : Addr} {fd d1 : FuncData} (F : Fun K "pair_sign" "pair_sign" s_pair_sign f fd) (F_sign_between : Fun K "sign_between" "sign_between" s_sign_between f1 d1) (b_sign_between : Binds K d1 ["one", "other"] []) (g_sign_between : mg "sign_between" = some (.ref f1)) :
    FnOk P w K mg base CX0 2 f fd ["ranks", "first", "second"] spPairSign := by
  have sc := sc_pair_sign
  have G_sign_between : FnOk P w K mg base CX0 1 f1 d1 _ spBetween := ok_between F_sign_between
  refine F.ok sc (fun vs H Q E h => ?_) (fun cdv A outer s H vs Q E hr h => ?_)
  · obtain ⟨a, ns, i, j, x, y, rfl, _⟩ := h
    rfl
  · obtain ⟨a, ns, i, j, x, y, rfl, ha, hi, hj, q⟩ := h
    refine ⟨_, (pss_one (ps_ret (pe_call G_sign_between (hr.mono (by decide)) (by rfl) g_sign_between F_sign_between.kp b_sign_between .nil pass0 (pa_cons (pe_ix ix_tup (pv 0) (pv 1) (fun _ _ => rfl)) (pa_cons (pe_ix ix_tup (pv 0) (pv 2) (fun _ _ => rfl)) pa_nil))))), ?_⟩
    have e1 : (ns.map V.int)[i]? = some (.int x) := by rw [List.getElem?_map, hi]; rfl
    have e2 : (ns.map V.int)[j]? = some (.int y) := by rw [List.getElem?_map, hj]; rfl
    refine ⟨_, rfl, _, rfl, a, _, i, _, rfl, rfl, SqT.of ha, atI_nat e1, _, rfl, _, rfl, a, _, j, _, rfl, rfl, SqT.of ha, atI_nat e2, ?_⟩
    exact ⟨_, _, _, _, rfl, .int x, .int y, (fun z => nomatch (z : (1 : Nat) = 0)), rfl, q⟩
end
theorem valD_yes {d : PyData} (h : valD d = true) : kd d ≠ 0 := by
  intro z
  unfold valD at h
  rw [z] at h
  cases h
theorem valD_no {d : PyData} (h : valD d = false) : kd d = 0 := by
  unfold valD at h
  simpa using h
/-- the key that a value is -/
def kyD : PyData → Key
  | .int i => .inl i
  | .str x => .inr x
  | _ => .inl 0
theorem ky_dt {H : Hp} {v : V} {d : PyData} (h : Dt true H v d) (k : kd d ≠ 0) : v = kV (kyD d) := by
  cases h with
  | int i => rfl
  | str x => rfl
  | _ => exact absurd rfl k
theorem ky_all {H : Hp} : ∀ {vs : List V} {ds : List PyData}, DtAll true H vs ds → (∀ d ∈ ds, kd d ≠ 0) → vs = (ds.map kyD).map kV
  | _, _, .nil, _ => rfl
  | _, _, .cons h hs, n => by
    rw [List.map_cons, List.map_cons, ← ky_dt h (n _ List.mem_cons_self), ← ky_all hs fun d m => n d (List.mem_cons_of_mem _ m)]
theorem dt_ky {H : Hp} {d : PyData} (k : kd d ≠ 0) : Dt true H (kV (kyD d)) d := by
  cases d with
  | int i => exact .int i
  | str x => exact .str x
  | _ => exact absurd rfl k
/-- the keys' kinds, as texts -/
def kinds (ds : List PyData) : List Key := ds.map fun d => .inr (kindT d)
def uni (ds : List PyData) : Bool := decide ((sof (kinds ds)).length ≤ 1)
def ranks (ds : List PyData) : List Int := ds.map fun d => ((rankK (ds.map kyD) (kyD d) : Nat) : Int)
theorem two_in {L : List Key} (n : L.Nodup) (few : L.length ≤ 1) {a b : Key} (ha : a ∈ L) (hb : b ∈ L) : a = b := by
  match L, few with
  | [], _ => cases ha
  | [x], _ =>
    rw [List.mem_singleton.mp ha, List.mem_singleton.mp hb]
theorem kind_key {d : PyData} (k : kd d ≠ 0) : (kindT d = "number" ∧ isIK (kyD d)) ∨ (kindT d = "text" ∧ isSK (kyD d)) := by
  cases d with
  | int i => exact .inl ⟨rfl, i, rfl⟩
  | str x => exact .inr ⟨rfl, x, rfl⟩
  | _ => exact absurd rfl k
theorem uni_one {ds : List PyData} (u : uni ds = true) (n : ∀ d ∈ ds, kd d ≠ 0) : OneK (ds.map kyD) := by
  have few := of_decide_eq_true u
  have same : ∀ d ∈ ds, ∀ e ∈ ds, kindT d = kindT e := fun d hd e he => by
    have z := two_in (nd_sof (kinds ds)) few (mem_sof.mpr (List.mem_map_of_mem hd)) (mem_sof.mpr (List.mem_map_of_mem he))
    exact Sum.inr.inj z
  have ne : ("number" : Str) ≠ "text" := by decide
  cases ds with
  | nil => exact .inl fun k h => by cases h
  | cons d r =>
    rcases kind_key (n d List.mem_cons_self) with ⟨a, _⟩ | ⟨a, _⟩
    · refine .inl fun k hk => ?_
      obtain ⟨e, he, rfl⟩ := List.mem_map.mp hk
      rcases kind_key (n e he) with ⟨_, z⟩ | ⟨b, _⟩
      · exact z
      · exact absurd (a.symm.trans ((same d List.mem_cons_self e he).trans b)) ne
    · refine .inr fun k hk => ?_
      obtain ⟨e, he, rfl⟩ := List.mem_map.mp hk
      rcases kind_key (n e he) with ⟨b, _⟩ | ⟨_, z⟩
      · exact absurd (b.symm.trans ((same e he d List.mem_cons_self).trans a)) ne
      · exact z
theorem rank_map {P : Key → Nat} : ∀ (ds : List PyData), (ds.map kyD).map (fun k => V.int ((P k : Nat) : Int)) = (ds.map fun d => ((P (kyD d) : Nat) : Int)).map V.int
  | [] => rfl
  | d :: r => by
    rw [List.map_cons, List.map_cons, List.map_cons, List.map_cons, rank_map r]
/-- the weak order of a list or a tuple of values of one kind -/
def spWeak (K : PySem.W.Frag) : Sp := fun vs H Q E => ∃ a xs ds, vs = [.ref a] ∧ (SqL K H a xs ∨ SqT K H a xs) ∧ DtAll true H xs ds ∧ (∀ d ∈ ds, Thing d) ∧ ds.length ≤ 20 ∧
  (∀ d ∈ ds, kd d ≠ 0) ∧ uni ds = true ∧ ∀ p G H', Same H G → G p = none → H' = upd G p (.tup ((ranks ds).map V.int)) → Q (.ref p) H'
section
variable {P : Program} {w : World} {K : PySem.W.Frag} {mg : Str → Option Value} {base : Heap}
theorem ok_weak {f f1 f2 : Addr} {fd d1 d2 : FuncData} (F : Fun K "weak_order_of" "weak_order_of" s_weak_order_of f fd)
    (F_is_value : Fun K "is_value" "is_value" s_is_value f1 d1) (b_is_value : Binds K d1 ["value"] []) (g_is_value : mg "is_value" = some (.ref f1)) (G_is_value : FnOk P w K mg base CX0 2 f1 d1 ["value"] (spAsk valD))
    (F_kind_of_value : Fun K "kind_of_value" "kind_of_value" s_kind_of_value f2 d2) (b_kind_of_value : Binds K d2 ["value"] []) (g_kind_of_value : mg "kind_of_value" = some (.ref f2)) (T : Blt mg) :
    FnOk P w K mg base CX0 3 f fd ["values"] (spWeak K) := by
  have sc := sc_weak_order_of
  have G_kind_of_value : FnOk P w K mg base CX0 1 f2 d2 ["value"] spKindOf := ok_kind_of F_kind_of_value T
  refine F.ok sc (fun vs H Q E h => ?_) (fun cdv A outer s H vs Q E hr h => ?_)
  · obtain ⟨a, xs, ds, rfl, _⟩ := h
    rfl
  · obtain ⟨a, xs, ds, rfl, hq, hd, th, few, nb, un, q1⟩ := h
    have hu := hu_of hr
    have lx : xs.length = ds.length := hd.length
    refine ⟨_, (pss_cons (ps_for PassesOwn.never (by rfl) (pi_or (pi_list (pv 0)) (pi_tup (pv 0))) (pg_name (i := 1) sc.nd rfl (.inl rfl)) (pss_one (ps_if (pt_not (pt_val (pe_call G_is_value (hr.mono (by decide)) (by rfl) g_is_value F_is_value.kp b_is_value .nil pass0 (pa_cons (pv 1) pa_nil)))) (pss_one ps_never) pss_nil)))
      (pss_cons (ps_if (pt_cmpR op_gt (pe_callB cr_lenM (by rfl) T.n_len PySem.boot_len (pa_cons (pe_scM (own := [("value", 1)]) (g := gName 1) (tt := tYes) (by rfl) sc.nd (pi_or (pi_list (pv 0)) (pi_tup (pv 0))) (blkOk_by (own := [("value", 1)]) (N := ["values", "value", "ranks", "rank"]) (sc := defScope s_weak_order_of) (by decide +kernel)) (fun _ _ _ _ _ => pg_name (i := 1) sc.nd rfl (Or.inl rfl)) (fun _ _ _ _ _ => pts_nil) (fun _ _ _ _ _ => (pe_call G_kind_of_value (hr.mono (by decide)) (by rfl) g_kind_of_value F_kind_of_value.kp b_kind_of_value .nil pass0 (pa_cons (pv 1) pa_nil)))) pa_nil)) pe_int (nomark _)) (pss_one ps_never) pss_nil)
      (pss_cons (ps_set (i := 2) sc.nd rfl (.inr rfl) (pe_dc (own := [("rank", 3), ("value", 1)]) (g := gTup K 2 _) (tt := tYes) (by rfl) sc.nd (pi_enum (by rfl) T.n_enumerate (pa_cons (pe_callB (cr_sortK (by rfl)) (by rfl) T.n_sorted (by decide +kernel) (pa_cons (pe_callTy (cr_setOf (by rfl)) (by rfl) T.n_set (by decide +kernel) (pa_cons (pv 0) pa_nil)) pa_nil)) pa_nil)) (blkOk_by (own := [("rank", 3), ("value", 1)]) (N := ["values", "value", "ranks", "rank"]) (sc := defScope s_weak_order_of) (by decide +kernel)) (fun _ _ _ _ _ => pg_tup (by rfl) (pgs_cons (pg_name (i := 3) sc.nd rfl (Or.inl rfl)) (pgs_cons (pg_name (i := 1) sc.nd rfl (Or.inl rfl)) pgs_nil))) (fun _ _ _ _ _ => pts_nil) (fun _ _ _ _ _ => (pv 1)) (fun _ _ _ _ _ => (pv 3))))
      (pss_one (ps_ret (pe_callTy call_tuple_of (by rfl) T.n_tuple (by decide +kernel) (pa_cons (pe_lc (own := [("value", 1)]) (g := gName 1) (tt := tYes) (by rfl) sc.nd (pi_or (pi_list (pv 0)) (pi_tup (pv 0))) (blkOk_by (own := [("value", 1)]) (N := ["values", "value", "ranks", "rank"]) (sc := defScope s_weak_order_of) (by decide +kernel)) (fun _ _ _ _ _ => pg_name (i := 1) sc.nd rfl (Or.inl rfl)) (fun _ _ _ _ _ => pts_nil) (fun _ _ _ _ _ => (pe_dget hu (pv 2) (pv 1) (fun _ _ => rfl)))) pa_nil))))))), ?_⟩
    refine seq_or rfl hq fun J wk => for_wk wk (fun i σ G => ∃ y, σ = [some (.ref a), y, none, none] ∧ Same H G) ⟨none, rfl, Same.refl _⟩ (fun i σ G _ ⟨_, _, k⟩ => k) ?_ ?_
    · rintro i x σ G hx ⟨y, rfl, k⟩
      obtain ⟨d, hd2, hdx⟩ := hd.get hx
      have yes : valD d = true := by
        have z := nb d (List.mem_of_getElem? hd2)
        unfold valD
        simpa using z
      refine ⟨_, rfl, x, d, rfl, hdx.same k, th d (List.mem_of_getElem? hd2), fun H1 s1 => ⟨_, rfl, ?_⟩⟩
      rw [yes]
      exact iteF ⟨_, rfl, k.trans s1⟩
    · rintro σ G ⟨y, rfl, k⟩
      have xk : xs = (ds.map kyD).map kV := ky_all hd nb
      have hqG : SqL K G a xs ∨ SqT K G a xs := hq.imp (fun z => k.seq z) fun z => same_tup k z
      have lk : (ds.map kyD).length = ds.length := List.length_map ..
      have lxd : (kinds ds).length = ds.length := List.length_map ..
      refine seq_or rfl hqG fun J1 wk1 D hD => w_wk wk1 (fun i G' => Same G G' ∧ G' D = some (SetMO P w D (sof ((kinds ds).take i)))) ⟨same_new hD, upd_same⟩ (fun i G' _ z => z.1) ?_ ?_
      · rintro i x G' hx ⟨k1, at1⟩
        obtain ⟨d, hd2, hdx⟩ := hd.get hx
        refine ⟨rfl, ?_⟩
        have lt : i < ds.length := (List.getElem?_eq_some_iff.mp hd2).1
        have hk : (kinds ds)[i]? = some (Sum.inr (kindT d)) := by
          unfold kinds
          rw [List.getElem?_map, hd2]
          rfl
        have ln := len_sof ((kinds ds).take i)
        rw [List.length_take] at ln
        refine ⟨_, rfl, x, d, rfl, hdx.same (k.trans k1), Sum.inr (kindT d), _, rfl, at1, by unfold scanBound; omega, fun b o e => (upd_ne (ne_of_none e hD)).trans (k1 b o e), ?_⟩
        rw [sof_take hk]
        exact upd_same
      · rintro G1 ⟨k1, at1⟩
        rw [show xs.length = (kinds ds).length from by rw [lx, lxd], List.take_length] at at1
        refine ⟨D, _, rfl, at1, _, _, rfl, rfl, _, rfl, ite2 (fun z => ?_) (fun z => ?_)⟩
        · exact absurd (of_decide_eq_true un) (by have z2 := of_decide_eq_true z; omega)
        · have one := uni_one un nb
          have kG1 := k.trans k1
          have hqG1 : SqL K G1 a ((ds.map kyD).map kV) ∨ SqT K G1 a ((ds.map kyD).map kV) := by
            rw [← xk]
            exact hq.imp (fun z => kG1.seq z) fun z => same_tup kG1 z
          refine ⟨_, rfl, a, ds.map kyD, rfl, hqG1, by omega, fun A1 hA1 => ?_⟩
          have oneS : OneK (sof (ds.map kyD)) := one.imp (fun z k m => z k (mem_sof.mp m)) fun z k m => z k (mem_sof.mp m)
          have lS := len_sof (ds.map kyD)
          refine ⟨A1, _, rfl, upd_same, by omega, oneS, fun zs p pw mem len hp => ?_⟩
          have memK : ∀ k, k ∈ zs ↔ k ∈ ds.map kyD := fun k => (mem k).trans mem_sof
          have zl : zs.length ≤ 20 := by omega
          have s3 : ∀ {o1 o2 : HO}, Same G1 (upd (upd G1 A1 o1) p o2) := fun {o1 o2} b o e => by
            have z1 : upd G1 A1 o1 b = some o := (upd_ne (ne_of_none e hA1)).trans e
            exact (upd_ne (fun z => by
              rw [z] at e
              have np : G1 p = none := by
                by_cases pa : p = A1
                · rw [pa]; exact hA1
                · rw [upd_ne pa] at hp; exact hp
              rw [np] at e
              cases e)).trans z1
          have at3 : ∀ {o1 : HO}, upd (upd G1 A1 o1) p (.lst (zs.map kV)) p = some (.lst (zs.map kV)) := upd_same
          generalize hG3 : upd (upd G1 A1 _) p (HO.lst (zs.map kV)) = G3
          have s3 : Same G1 G3 := hG3 ▸ s3
          have at3 : G3 p = some (.lst (zs.map kV)) := hG3 ▸ at3
          refine ⟨p, zs.map kV, rfl, SqL.of at3, fun DD hDD => ?_⟩
          refine w_enum (fun i G' => Same G3 G' ∧ ∃ kvs, G' DD = some (.dK kvs) ∧ kvs.length ≤ i ∧ ∀ j k, j < i → zs[j]? = some k → valV kvs k = some (.int (j : Nat)))
            ⟨same_new hDD, [], upd_same, Nat.le_refl _, fun j k lt => by omega⟩ (fun i G' _ z => SqL.of (z.1 _ _ at3)) ?_ ?_
          · rintro i x G' TT hx ⟨k4, kvs, at4, l4, val4⟩ hTT
            obtain ⟨ky, hky, rfl⟩ : ∃ ky, zs[i]? = some ky ∧ x = kV ky := by
              rw [List.getElem?_map] at hx
              cases e : zs[i]? with
              | none => rw [e] at hx; cases hx
              | some ky => rw [e] at hx; exact ⟨ky, rfl, (Option.some.inj hx).symm⟩
            have ti : i < zs.length := (List.getElem?_eq_some_iff.mp hky).1
            have nT : DD ≠ TT := ne_of_none at4 hTT
            refine ⟨TT, _, rfl, SqT.of upd_same, rfl, _, _, rfl, _, _, rfl, rfl, ?_⟩
            refine ⟨rfl, ?_⟩
            refine ⟨_, rfl, _, rfl, kvs, ky, rfl, (upd_ne nT).trans at4, by rw [sizeLine_eq]; omega, fun b o e => ?_, putK kvs ky (.int (i : Nat)), upd_same, ?_, fun j k lt hj => ?_⟩
            · have z1 := k4 b o e
              exact (upd_ne (ne_of_none e hDD)).trans ((upd_ne (ne_of_none z1 hTT)).trans z1)
            · have z1 := length_putK kvs ky (.int (i : Nat))
              omega
            · rw [valV_put]
              by_cases ji : j = i
              · subst ji
                rw [hky] at hj
                cases hj
                rw [if_pos rfl]
              · have nk : ¬ k = ky := fun e => by
                  subst e
                  have r1 := rank_at pw memK hj
                  have r2 := rank_at pw memK hky
                  omega
                rw [if_neg nk]
                exact val4 j k (by omega) hj
          · rintro G4 ⟨k4, kvs, at4, l4, val4⟩
            rw [List.length_map] at val4
            have kG4 : Same H G4 := kG1.trans (s3.trans k4)
            have hqG4 : SqL K G4 a xs ∨ SqT K G4 a xs := hq.imp (fun z => kG4.seq z) fun z => same_tup kG4 z
            refine seq_or rfl hqG4 fun J5 wk5 D5 hD5 => w_wk wk5 (fun i G' => Same G4 G' ∧ G' D5 = some (.lst (((ranks ds).take i).map V.int))) ⟨same_new hD5, upd_same⟩ (fun i G' _ z => z.1) ?_ ?_
            · rintro i x G' hx ⟨k5, at5⟩
              obtain ⟨d, hd2, hdx⟩ := hd.get hx
              have mk : kyD d ∈ zs := (memK _).mpr (List.mem_map_of_mem (List.mem_of_getElem? hd2))
              obtain ⟨j, hj⟩ := List.mem_iff_getElem?.mp mk
              have rk := rank_at pw memK hj
              have jl : j < zs.length := (List.getElem?_eq_some_iff.mp hj).1
              have ex : x = kV (kyD d) := ky_dt hdx (nb d (List.mem_of_getElem? hd2))
              subst ex
              have hr2 : (ranks ds)[i]? = some ((j : Nat) : Int) := by
                unfold ranks
                rw [List.getElem?_map, hd2, ← rk]
                rfl
              refine ⟨rfl, ?_⟩
              have il : i < ds.length := (List.getElem?_eq_some_iff.mp hd2).1
              have dg := DGet.k (k := kyD d) (k5 _ _ at4)
              rw [val4 j _ jl hj] at dg
              refine ⟨_, rfl, _, rfl, DD, _, rfl, dg, _, at5, ?_, fun b o e => (upd_ne (ne_of_none e hD5)).trans (k5 b o e), ?_⟩
              · rw [List.length_map, List.length_take, sizeLine_eq]
                omega
              · rw [upd_same, List.take_add_one, hr2, List.map_append]
                rfl
            · rintro G5 ⟨k5, at5⟩
              have lr : (ranks ds).length = ds.length := List.length_map ..
              rw [show xs.length = (ranks ds).length from by rw [lx, lr], List.take_length] at at5
              exact ⟨D5, _, rfl, .inl ⟨SqL.of at5, fun l hl => q1 l G5 _ (kG4.trans k5) hl rfl⟩⟩
end
end K19

set_option Elab.async false
set_option linter.all false
set_option maxRecDepth 100000
set_option maxHeartbeats 8000000
namespace K19
open PySem PySem.Spec L2 PSG PSS
open PyProof.Rows (IntsAre AllBare)
abbrev s_tuples_over : Stmt := topS 12
theorem sc_tuples_over : FnScope ["choices", "length", "found", "_", "before", "choice"] ["choices", "length"] (defScope s_tuples_over) := ⟨rfl, rfl, rfl, by decide +kernel, rfl, by decide +kernel, by decide +kernel⟩

/-- a tuple of these numbers stands there -/
def TupAt (H : Hp) (v : V) (c : List Int) : Prop := ∃ a, v = .ref a ∧ H a = some (.tup (c.map V.int))
def TupsAt (H : Hp) : List V → List (List Int) → Prop
  | [], [] => True
  | v :: vs, e :: es => TupAt H v e ∧ TupsAt H vs es
  | _, _ => False
theorem TupsAt.mono {H H' : Hp} (h : Same H H') : ∀ {vs : List V} {es : List (List Int)}, TupsAt H vs es → TupsAt H' vs es
  | [], [], _ => trivial
  | v :: vs, e :: es, ⟨⟨a, x, y⟩, r⟩ => ⟨⟨a, x, h _ _ y⟩, TupsAt.mono h r⟩
theorem TupsAt.keep {H H' : Hp} (h : ∀ a xs, H a = some (.tup xs) → H' a = some (.tup xs)) : ∀ {vs : List V} {es : List (List Int)}, TupsAt H vs es → TupsAt H' vs es
  | [], [], _ => trivial
  | v :: vs, e :: es, ⟨⟨a, x, y⟩, r⟩ => ⟨⟨a, x, h _ _ y⟩, TupsAt.keep h r⟩
theorem TupsAt.len {H : Hp} : ∀ {vs : List V} {es : List (List Int)}, TupsAt H vs es → vs.length = es.length
  | [], [], _ => rfl
  | _ :: _, _ :: _, ⟨_, r⟩ => congrArg (· + 1) (TupsAt.len r)
theorem TupsAt.app {H : Hp} {us : List V} {fs : List (List Int)} : ∀ {vs : List V} {es : List (List Int)}, TupsAt H vs es → TupsAt H us fs → TupsAt H (vs ++ us) (es ++ fs)
  | [], [], _, k => k
  | _ :: _, _ :: _, ⟨h, r⟩, k => ⟨h, TupsAt.app r k⟩
theorem TupsAt.at {H : Hp} : ∀ {vs : List V} {es : List (List Int)} {i : Nat} {v : V}, TupsAt H vs es → vs[i]? = some v → ∃ e, es[i]? = some e ∧ TupAt H v e
  | _ :: _, e :: _, 0, v, ⟨h, _⟩, k => ⟨e, rfl, by
    cases k
    exact h⟩
  | _ :: vs, _ :: es, i + 1, v, ⟨_, r⟩, k => TupsAt.at (i := i) r (by simpa using k)
def step (xs : List Int) (cs : List (List Int)) : List (List Int) := cs.flatMap fun b => xs.map fun c => b ++ [c]
def combos (xs : List Int) : Nat → List (List Int)
  | 0 => [[]]
  | m + 1 => step xs (combos xs m)
theorem step_len (xs : List Int) : ∀ cs : List (List Int), (step xs cs).length = cs.length * xs.length
  | [] => by rw [List.length_nil, Nat.zero_mul]; rfl
  | b :: cs => by
    show ((xs.map fun c => b ++ [c]) ++ step xs cs).length = _
    rw [List.length_append, List.length_map, step_len xs cs, List.length_cons, Nat.succ_mul]
    omega
theorem combos_len (xs : List Int) : ∀ m, (combos xs m).length = xs.length ^ m
  | 0 => rfl
  | m + 1 => by
    show (step xs (combos xs m)).length = _
    rw [step_len, combos_len xs m, Nat.pow_succ]
theorem pow4 {a m : Nat} (h : a ≤ 4) (k : m ≤ 4) : a ^ m ≤ 256 := by
  by_cases z : a = 0
  · subst z
    cases m with
    | zero => decide
    | succ m => rw [Nat.pow_succ, Nat.mul_zero]; decide
  · exact Nat.le_trans (Nat.pow_le_pow_left h m) (Nat.pow_le_pow_right (n := 4) (by decide) k)
theorem combo_each (xs : List Int) : ∀ m, ∀ c ∈ combos xs m, c.length = m
  | 0, c, h => by
    rw [List.mem_singleton.mp h]
    rfl
  | m + 1, c, h => by
    obtain ⟨b, hb, hc⟩ := List.mem_flatMap.mp h
    obtain ⟨x, _, rfl⟩ := List.mem_map.mp hc
    rw [List.length_append, combo_each xs m b hb]
    rfl
theorem step_take {xs : List Int} {cs : List (List Int)} {i : Nat} {b : List Int} (h : cs[i]? = some b) : step xs (cs.take (i + 1)) = step xs (cs.take i) ++ xs.map fun c => b ++ [c] := by
  unfold step
  rw [List.take_add_one, h, List.flatMap_append]
  show _ ++ ((xs.map fun c => b ++ [c]) ++ []) = _
  rw [List.append_nil]
section
variable {P : Program} {w : World} {K : PySem.W.Frag} {mg : Str → Option Value} {base : Heap}
def spOverT : Sp := fun vs H Q _ => ∃ (a : Addr) (xs : List Int) (n : Nat), vs = [.ref a, .int n] ∧ H a = some (.tup (xs.map V.int)) ∧ xs.length ≤ 4 ∧ n ≤ 4 ∧ ∀ p us H', Same H H' → H' p = some (.lst us) → TupsAt H' us (combos xs n) → Q (.ref p) H'
theorem ok_overT {f : Addr} {fd : FuncData} (F : Fun K "tuples_over" "tuples_over" s_tuples_over f fd) (T : Blt mg) : FnOk P w K mg base CX0 1 f fd ["choices", "length"] spOverT := by
  have sc := sc_tuples_over
  refine F.ok sc (fun vs H Q E h => ?_) (fun cdv A outer s H vs Q E hr h => ?_)
  · obtain ⟨a, xs, n, rfl, _⟩ := h
    rfl
  · obtain ⟨a, xs, n, rfl, ha, few, n4, q⟩ := h
    refine ⟨_, (pss_cons (ps_set (i := 2) sc.nd rfl (.inl rfl) (pe_lst (pa_cons (pe_tup pa_nil) pa_nil)))
      (pss_cons (ps_for PassesOwn.never (by rfl) (pi_range1 (by rfl) T.n_range (pa_cons (pv 1) pa_nil)) (pg_name (i := 3) sc.nd rfl (.inl rfl)) (pss_one (ps_setLc2 (i := 2) (own := [("before", 4), ("choice", 5)]) (vs1 := [5]) (g := gName 4) (g1 := gName 5) (tt := tYes) (tt1 := tYes) (by rfl) sc.nd rfl rfl (sw_true rfl rfl rfl (by decide +kernel)) (pi_list (pv 2)) (blkOk_by (own := [("before", 4), ("choice", 5)]) (N := ["choices", "length", "found", "_", "before", "choice"]) (sc := defScope s_tuples_over) (by decide +kernel)) (by decide) (fun _ _ _ _ _ => pg_name (i := 4) sc.nd rfl (Or.inl rfl)) (fun _ _ _ _ _ => pts_nil) (fun _ _ _ _ _ => (show PI _ _ _ (iTup K _) from pi_tup (pv 0))) (fun _ _ _ _ _ => pg_name (i := 5) sc.nd rfl (Or.inl rfl)) (fun _ _ _ _ _ => pts_nil) (fun _ _ _ _ _ => (pe_tup (show PA _ _ (StX.tStar K _ _) from StX.pa_star (pv 4) (pa_cons (pv 5) pa_nil)))))))
      (pss_one (ps_ret (pv 2))))), ?_⟩
    refine ⟨Nat.zero_le _, fun p0 hp0 => ⟨Nat.le_of_ble_eq_true rfl, fun p hp => ?_⟩⟩
    have s0 := (same_new (o := .tup []) hp0).trans (same_new (o := .lst [.ref p0]) hp)
    have n0 : p0 ≠ p := fun z => by
      rw [← z, upd_same] at hp
      cases hp
    have a0 : upd (upd H p0 (.tup [])) p (.lst [.ref p0]) p0 = some (.tup []) := (upd_ne n0).trans upd_same
    have a1 : upd (upd H p0 (.tup [])) p (.lst [.ref p0]) p = some (.lst [.ref p0]) := upd_same
    generalize upd (upd H p0 (.tup [])) p (.lst [.ref p0]) = H0 at s0 a0 a1 ⊢
    refine ⟨_, rfl, _, rfl, by omega, by omega, ?_⟩
    refine for_range (lo := 0) (n := n) (fun m σ G => ∃ p us y, σ = [some (.ref a), some (.int n), some (.ref p), y, none, none] ∧ Same H G ∧ G p = some (.lst us) ∧ TupsAt G us (combos xs m))
      ⟨p, _, _, rfl, s0, a1, ⟨⟨p0, rfl, a0⟩, trivial⟩⟩ ?_ ?_
    · rintro m σ G hm ⟨p, us, y, rfl, k, ap, tu⟩
      refine ⟨_, rfl, p, rfl, ⟨us, SqL.of ap⟩, fun D hD => ?_⟩
      have lu := tu.len
      have lc := combos_len xs m
      have p4 := pow4 few (Nat.le_trans (Nat.le_of_lt hm) n4)
      refine w_list (xs := us) (fun i G' => Same G G' ∧ ∃ ws, G' D = some (.lst ws) ∧ TupsAt G' ws (step xs ((combos xs m).take i))) ⟨same_new hD, [], upd_same, trivial⟩ (fun i G' _ z => SqL.of (z.1 _ _ ap)) ?_ ?_
      · rintro i x G' hx ⟨k1, ws, aD, tw⟩
        obtain ⟨b, hb, tb⟩ := tu.at hx
        obtain ⟨ab, rfl, hab⟩ := tb
        refine ⟨rfl, _, rfl, a, rfl, ⟨_, SqT.of (k1 _ _ (k _ _ ha))⟩, ?_⟩
        refine w_tup (xs := xs.map V.int) (fun j G' => Same G G' ∧ ∃ ws, G' D = some (.lst ws) ∧ TupsAt G' ws (step xs ((combos xs m).take i) ++ (xs.take j).map fun c => b ++ [c])) ⟨k1, ws, aD, by rw [List.take_zero, List.map_nil, List.append_nil]; exact tw⟩ (fun j G' _ z => SqT.of (z.1 _ _ (k _ _ ha))) ?_ ?_
        · rintro j x G2 hx2 ⟨k2, ws2, aD2, tw2⟩
          rw [List.getElem?_map] at hx2
          cases hj : xs[j]? with
          | none => rw [hj] at hx2; cases hx2
          | some c =>
            rw [hj] at hx2
            cases hx2
            have lw := tw2.len
            rw [List.length_append, step_len, List.length_take, List.length_map, List.length_take] at lw
            have lb : b.length = m := combo_each xs m b (List.mem_of_getElem? hb)
            have il : i < (combos xs m).length := (List.getElem?_eq_some_iff.mp hb).1
            have jl : j < xs.length := (List.getElem?_eq_some_iff.mp hj).1
            have small : ws2.length < sizeLine := by
              have m1 : min i (combos xs m).length * xs.length ≤ 256 * 4 := Nat.mul_le_mul (by omega) few
              rw [sizeLine_eq]
              omega
            refine ⟨rfl, _, rfl, ab, b.map V.int, rfl, .inl (SqT.of (k2 _ _ hab)), _, rfl, ?_⟩
            refine ⟨by rw [List.length_append, List.length_map, lb, sizeLine_eq]; show m + 1 ≤ _; omega, fun TT hTT => ⟨ws2, ?_, small, ?_, ws2 ++ [.ref TT], upd_same, ?_⟩⟩
            · exact (upd_ne (ne_of_none aD2 hTT)).trans aD2
            · exact fun b' o e => (upd_ne (ne_of_none e hD)).trans ((upd_ne (ne_of_none (k2 _ _ e) hTT)).trans (k2 _ _ e))
            · rw [List.take_add_one, hj, List.map_append, ← List.append_assoc]
              have nTD : TT ≠ D := fun z => by
                rw [z, aD2] at hTT
                cases hTT
              have s9 : ∀ a' xs', G2 a' = some (.tup xs') → upd (upd G2 TT (.tup ((b.map V.int) ++ [V.int c]))) D (.lst (ws2 ++ [.ref TT])) a' = some (.tup xs') := fun a' xs' e => by
                have n1 : a' ≠ D := fun z => by
                  rw [z, aD2] at e
                  cases e
                exact (upd_ne n1).trans ((upd_ne (ne_of_none e hTT)).trans e)
              refine TupsAt.app (TupsAt.keep s9 tw2) ⟨⟨TT, rfl, ?_⟩, trivial⟩
              rw [upd_ne nTD, upd_same, List.map_append]
              rfl
        · rintro G2 ⟨k2, ws2, aD2, tw2⟩
          rw [List.length_map, List.take_length, ← step_take hb] at tw2
          exact ⟨k2, ws2, aD2, tw2⟩
      · rintro G' ⟨k1, ws, aD, tw⟩
        rw [lu, List.take_length] at tw
        exact ⟨D, ws, _, rfl, k.trans k1, aD, tw⟩
    · rintro σ G ⟨p, us, y, rfl, k, ap, tu⟩
      exact ⟨_, rfl, q p us G k ap tu⟩
end
end K19

set_option Elab.async false
set_option linter.all false
set_option maxRecDepth 100000
set_option maxHeartbeats 8000000
namespace K19
open PySem PySem.Spec L2 PSG PSS
def rg (n : Nat) : List Int := (List.range n).map fun (i : Nat) => (i : Int)
def ksI (c : List Int) : List Key := c.map Sum.inl
def cnt (c : List Int) : Nat := (sof (ksI c)).length
def full (c : List Int) : Bool := (List.range (cnt c)).all fun i => decide ((i : Int) ∈ c)
def okM (m : Option Nat) (c : List Int) : Bool := match m with
  | none => true
  | some k => decide (cnt c ≤ k)
def good (m : Option Nat) (c : List Int) : Bool := full c && okM m c
/-- the weak orders of n things, of m ranks at most -/
def weaks (n : Nat) (m : Option Nat) : List (List Int) := (combos (rg n) n).filter (good m)
theorem mem_rg {n : Nat} {x : Int} : x ∈ rg n ↔ 0 ≤ x ∧ x < n := by
  unfold rg
  rw [List.mem_map]
  constructor
  · rintro ⟨i, hi, rfl⟩
    have := List.mem_range.mp hi
    omega
  · rintro ⟨h1, h2⟩
    exact ⟨x.toNat, List.mem_range.mpr (by omega), by omega⟩
theorem rg_len (n : Nat) : (rg n).length = n := by
  unfold rg
  rw [List.length_map, List.length_range]
theorem mem_combos {xs : List Int} : ∀ {m : Nat} {c : List Int}, c.length = m → (∀ x ∈ c, x ∈ xs) → c ∈ combos xs m
  | 0, c, h, _ => by
    rw [List.eq_nil_of_length_eq_zero h]
    exact List.mem_singleton.mpr rfl
  | m + 1, c, h, k => by
    have ne : c ≠ [] := fun z => by rw [z] at h; cases h
    have e := List.dropLast_concat_getLast ne
    refine List.mem_flatMap.mpr ⟨c.dropLast, mem_combos (by rw [List.length_dropLast]; omega) (fun x hx => k x ((List.dropLast_sublist c).subset hx)), List.mem_map.mpr ⟨c.getLast ne, k _ (List.getLast_mem ne), e⟩⟩
theorem inc_few : ∀ {ns : List Int} {lo : Int} {m : Nat}, ns.Pairwise (fun a b => a < b) → (∀ i : Nat, i < m → lo + i ∈ ns) → m ≤ ns.length
  | [], lo, m, _, h => by
    cases m with
    | zero => exact Nat.le_refl _
    | succ m => exact absurd (h 0 (Nat.succ_pos _)) (by simp)
  | a :: r, lo, m, pw, h => by
    obtain ⟨p1, p2⟩ := List.pairwise_cons.mp pw
    cases m with
    | zero => exact Nat.zero_le _
    | succ m =>
      by_cases e : a = lo
      · refine Nat.succ_le_succ (inc_few (lo := lo + 1) p2 fun i hi => ?_)
        have z := h (i + 1) (Nat.succ_lt_succ hi)
        rcases List.mem_cons.mp z with z | z
        · omega
        · have e2 : lo + 1 + (i : Int) = lo + ((i + 1 : Nat) : Int) := by omega
          rw [e2]
          exact z
      · refine Nat.le_trans (inc_few (lo := lo) (m := m + 1) p2 fun i hi => ?_) (Nat.le_succ _)
        have z0 := h 0 (Nat.succ_pos _)
        have l0 : a < lo := by
          rcases List.mem_cons.mp z0 with z | z
          · omega
          · have := p1 _ z
            omega
        rcases List.mem_cons.mp (h i hi) with z | z
        · omega
        · exact z
theorem inc_all : ∀ {m : Nat} {ns : List Int} {lo : Int}, ns.Pairwise (fun a b => a < b) → (∀ i : Nat, i < m → lo + i ∈ ns) → ns.length = m → ns = (List.range m).map fun (i : Nat) => lo + (i : Int)
  | 0, ns, lo, _, _, l => by
    rw [List.eq_nil_of_length_eq_zero l]
    rfl
  | m + 1, [], lo, _, _, l => by cases l
  | m + 1, a :: r, lo, pw, h, l => by
    obtain ⟨p1, p2⟩ := List.pairwise_cons.mp pw
    have l2 : r.length = m := by
      rw [List.length_cons] at l
      omega
    by_cases e : a = lo
    · have ih := inc_all (m := m) (ns := r) (lo := lo + 1) p2 (fun i hi => by
        have z := h (i + 1) (Nat.succ_lt_succ hi)
        rcases List.mem_cons.mp z with z | z
        · omega
        · have e2 : lo + 1 + (i : Int) = lo + ((i + 1 : Nat) : Int) := by omega
          rw [e2]
          exact z) l2
      rw [ih, e, List.range_succ_eq_map, List.map_cons, List.map_map]
      have e0 : lo + ((0 : Nat) : Int) = lo := by omega
      rw [e0]
      refine congrArg (lo :: ·) (List.map_congr_left fun i _ => ?_)
      show lo + 1 + (i : Int) = lo + ((i + 1 : Nat) : Int)
      omega
    · exfalso
      have z0 := h 0 (Nat.succ_pos _)
      have l0 : a < lo := by
        rcases List.mem_cons.mp z0 with z | z
        · omega
        · have := p1 _ z
          omega
      have few := inc_few (lo := lo) (m := m + 1) p2 fun i hi => by
        rcases List.mem_cons.mp (h i hi) with z | z
        · omega
        · exact z
      omega
theorem rg_eq (n : Nat) : rg n = (List.range n).map fun (i : Nat) => (0 : Int) + (i : Int) := by
  unfold rg
  exact List.map_congr_left fun i _ => by omega
/-- the sorted different ones are 0, 1, .. if these are all among them -/
theorem full_sorted {c ns : List Int} (pw : ns.Pairwise fun a b => a < b) (mem : ∀ i, i ∈ ns ↔ i ∈ c) (len : ns.length = cnt c) : decide (ns = rg (cnt c)) = full c := by
  rw [Bool.eq_iff_iff, decide_eq_true_eq]
  unfold full
  rw [List.all_eq_true]
  constructor
  · intro e i hi
    refine decide_eq_true ((mem _).mp ?_)
    rw [e]
    exact mem_rg.mpr ⟨by omega, by have := List.mem_range.mp hi; omega⟩
  · intro h
    rw [rg_eq]
    refine inc_all pw (fun i hi => ?_) len
    rw [Int.zero_add]
    exact (mem _).mpr (of_decide_eq_true (h i (List.mem_range.mpr hi)))
theorem eqvAll_ints : ∀ ns ms : List Int, PyData.eqvAll (ns.map PyData.int) (ms.map PyData.int) = decide (ns = ms)
  | [], [] => by simp [PyData.eqvAll]
  | [], b :: bs => by simp [PyData.eqvAll]
  | a :: r, [] => by simp [PyData.eqvAll]
  | a :: r, b :: bs => by
    have ih := eqvAll_ints r bs
    rw [List.map_cons, List.map_cons, PyData.eqvAll, ih, Bool.eq_iff_iff]
    simp [PyData.eqv]
theorem eqv_ints (ns ms : List Int) : PyData.eqv (.list (ns.map PyData.int)) (.list (ms.map PyData.int)) = decide (ns = ms) := by
  rw [PyData.eqv]
  exact eqvAll_ints ns ms
theorem eqv_tints (ns ms : List Int) : PyData.eqv (.tuple (ns.map PyData.int)) (.tuple (ms.map PyData.int)) = decide (ns = ms) := by
  rw [PyData.eqv]
  exact eqvAll_ints ns ms
theorem ints_lay : ∀ ns : List Int, PyData.canLayAll0 (ns.map PyData.int) = true
  | [] => by simp [PyData.canLayAll0]
  | a :: r => by
    rw [List.map_cons, PyData.canLayAll0, ints_lay r]
    rfl
theorem ints_depth : ∀ ns : List Int, PyData.depthAll (ns.map PyData.int) = 0
  | [] => by simp [PyData.depthAll]
  | a :: r => by
    rw [List.map_cons, PyData.depthAll, ints_depth r]
    simp [PyData.depth]
theorem ints_shaped (ns : List Int) : SeqAt.shaped (.list (ns.map PyData.int)) = true := by
  show (PyData.canLay0 (.list (ns.map PyData.int)) && decide (PyData.depth (.list (ns.map PyData.int)) ≤ 64)) = true
  have h := ints_depth ns
  rw [Bool.and_eq_true]
  exact ⟨by simp only [PyData.canLay0]; exact ints_lay ns, decide_eq_true (by simp only [PyData.depth]; omega)⟩
theorem tints_lay (ns : List Int) : PyData.canLay0 (.tuple (ns.map PyData.int)) = true := by
  simp only [PyData.canLay0]
  exact ints_lay ns
theorem tints_depth (ns : List Int) : PyData.depth (.tuple (ns.map PyData.int)) = 1 := by
  simp only [PyData.depth]
  rw [ints_depth ns]
theorem tints_shaped (ns : List Int) : SeqAt.shaped (.tuple (ns.map PyData.int)) = true := by
  show (PyData.canLay0 (.tuple (ns.map PyData.int)) && decide (PyData.depth (.tuple (ns.map PyData.int)) ≤ 64)) = true
  have h := tints_depth ns
  rw [Bool.and_eq_true]
  exact ⟨tints_lay ns, decide_eq_true (by omega)⟩
/-- a list of such tuples -/
def tD (c : List Int) : PyData := .tuple (c.map PyData.int)
theorem tDs_lay : ∀ cs : List (List Int), PyData.canLayAll0 (cs.map tD) = true
  | [] => by simp [PyData.canLayAll0]
  | c :: r => by
    rw [List.map_cons, PyData.canLayAll0, tDs_lay r, tD, tints_lay c]
    rfl
theorem tDs_depth : ∀ cs : List (List Int), PyData.depthAll (cs.map tD) ≤ 1
  | [] => by simp [PyData.depthAll]
  | c :: r => by
    have h1 := tDs_depth r
    have h2 := tints_depth c
    rw [List.map_cons, PyData.depthAll, tD, h2]
    omega
theorem tDs_shaped (cs : List (List Int)) : SeqAt.shaped (.list (cs.map tD)) = true := by
  have h1 := tDs_depth cs
  have h2 : PyData.depth (.list (cs.map tD)) ≤ 64 := by
    simp only [PyData.depth]
    omega
  show (PyData.canLay0 (.list (cs.map tD)) && decide (PyData.depth (.list (cs.map tD)) ≤ 64)) = true
  rw [Bool.and_eq_true]
  exact ⟨by simp only [PyData.canLay0]; exact tDs_lay cs, decide_eq_true h2⟩
theorem tDs_any (cs : List (List Int)) (c : List Int) : (cs.map tD).any (fun z => PyData.eqv z (tD c)) = decide (c ∈ cs) := by
  rw [List.any_map, Bool.eq_iff_iff, List.any_eq_true, decide_eq_true_eq]
  constructor
  · rintro ⟨b, hb, e⟩
    have e2 : PyData.eqv (.tuple (b.map PyData.int)) (.tuple (c.map PyData.int)) = true := e
    rw [eqv_tints] at e2
    rw [← of_decide_eq_true e2]
    exact hb
  · intro h
    refine ⟨c, h, ?_⟩
    show PyData.eqv (.tuple (c.map PyData.int)) (.tuple (c.map PyData.int)) = true
    rw [eqv_tints]
    exact decide_eq_true rfl
theorem ints_dp {K : PySem.W.Frag} {H : Hp} : ∀ ns : List Int, DpAll K H (ns.map V.int) (ns.map PyData.int)
  | [] => .nil
  | a :: r => .cons (.int a) (ints_dp r)
theorem tups_dp {K : PySem.W.Frag} {H : Hp} : ∀ {vs : List V} {cs : List (List Int)}, TupsAt H vs cs → DpAll K H vs (cs.map tD)
  | [], [], _ => .nil
  | v :: vs, c :: cs, ⟨⟨a, e, h⟩, r⟩ => by
    subst e
    exact .cons (.tup (SqT.of h) (ints_dp c)) (tups_dp r)
end K19

set_option Elab.async false
set_option linter.all false
set_option maxRecDepth 100000
set_option maxHeartbeats 8000000
namespace K19
open PySem PySem.Spec L2 PSG PSS
open PyProof.Rows (IntsAre AllBare)
abbrev s_weak_orders : Stmt := topS 23
theorem sc_weak_orders : GScope ["count", "most", "ranks", "many"] ["count", "most"] (defScope s_weak_orders) := ⟨rfl, rfl, rfl, by decide +kernel, rfl, by decide +kernel, by decide +kernel⟩

structure Cst4 (mg : Str → Option Value) : Prop where
  c_MOST_THINGS : ∃ t, mg "MOST_THINGS" = some (.int 4 t)
def mV : Option Nat → V
  | none => .non
  | some k => .int (k : Nat)
theorem inls_of {zs : List Key} (h : ∀ k ∈ zs, isIK k) : ∃ ns : List Int, zs = ns.map Sum.inl := by
  induction zs with
  | nil => exact ⟨[], rfl⟩
  | cons k r ih =>
    obtain ⟨i, rfl⟩ := h k List.mem_cons_self
    obtain ⟨ns, rfl⟩ := ih fun k hk => h k (List.mem_cons_of_mem _ hk)
    exact ⟨i :: ns, rfl⟩
theorem kv_inl (ns : List Int) : (ns.map (Sum.inl : Int → Key)).map kV = ns.map V.int := by
  rw [List.map_map]
  rfl
theorem ksI_kv (c : List Int) : (ksI c).map kV = c.map V.int := kv_inl c
theorem rgV_ints (n : Nat) : rgV 0 n = (rg n).map V.int := by
  rw [rg_eq, List.map_map]
  unfold rgV
  rw [Int.sub_zero, Int.toNat_natCast]
  rfl
section
variable {P : Program} {w : World} {K : PySem.W.Frag} {mg : Str → Option Value} {base : Heap}
def spWO : SpG := fun vs H Q _ => ∃ (n : Nat) (m : Option Nat), vs = [.int n, mV m] ∧ n ≤ 4 ∧ ∀ us H', Same H H' → TupsAt H' us (weaks n m) → Q us H'
theorem ok_weaks {dvs : List V} {kws : List (Str × V)} {f f1 f2 fI : Addr} {fd d1 d2 dI : FuncData} (F : FunD K "weak_orders" "weak_orders" (defArgs s_weak_orders) (defBody s_weak_orders) (defScope s_weak_orders) dvs kws f fd) (T : Blt mg) (U : Cst4 mg)
    (F_is_integer : Fun K "is_integer" "is_integer" s_is_integer fI dI) (b_is_integer : Binds K dI ["value"] []) (g_is_integer : mg "is_integer" = some (.ref fI))
    (F_is_count : Fun K "is_count" "is_count" s_is_count f1 d1) (b_is_count : Binds K d1 ["value"] []) (g_is_count : mg "is_count" = some (.ref f1))
    (F_tuples_over : Fun K "tuples_over" "tuples_over" s_tuples_over f2 d2) (b_tuples_over : Binds K d2 ["choices", "length"] []) (g_tuples_over : mg "tuples_over" = some (.ref f2)) :
    GFn P w K mg base 4 f fd ["count", "most"] spWO := by
  have sc := sc_weak_orders
  obtain ⟨tM, cM⟩ := U.c_MOST_THINGS
  have G_is_count : FnOk P w K mg base CX0 2 f1 d1 ["value"] _ := ok_count F_is_count T F_is_integer b_is_integer g_is_integer
  have G_tuples_over : FnOk P w K mg base CX0 1 f2 d2 _ _ := ok_overT F_tuples_over T
  refine PSY.gok F sc (fun vs H Q E h => ?_) (fun cdv A outer s H vs Q E pn hr h => ?_)
  · obtain ⟨n, m, rfl, _⟩ := h
    rfl
  · obtain ⟨n, m, rfl, n4, q⟩ := h
    refine ⟨_, (gss_cons (gs_ps (ps_if (PW.pt (pw_or (pt_not (pt_val (pe_call G_is_count (hr.mono (by decide)) (by rfl) g_is_count F_is_count.kp b_is_count .nil pass0 (pa_cons (pv 0) pa_nil)))) (pw_or1 (pt_cmpR op_gt (pv 0) (pe_glob (v := .int 4) (by rfl) cM ⟨_, rfl⟩) (nomark _))))) (pss_one ps_never) pss_nil))
      (PSY.gss_cut (fun σ H2 => Same H H2 ∧ σ = [some (.int n), some (mV m), none, none]) (gs_ps (ps_if (PW.pt (pw_and (pt_cmpR op_notN (pv 1) pe_non (nomark _)) (pw_and1 (pt_not (pt_val (pe_call G_is_count (hr.mono (by decide)) (by rfl) g_is_count F_is_count.kp b_is_count .nil pass0 (pa_cons (pv 1) pa_nil))))))) (pss_one ps_never) pss_nil))
      (gss_cons (PSW.gs_for (passes_of rfl) (by rfl) (pi_list (pe_call G_tuples_over (hr.mono (by decide)) (by rfl) g_tuples_over F_tuples_over.kp b_tuples_over .nil pass0 (pa_cons (pe_tupRg (by rfl) (by rfl) T.n_tuple (prg_1 (by rfl) T.n_range (pv 0))) (pa_cons (pv 0) pa_nil)))) (pg_name (i := 2) sc.nd rfl (.inl rfl)) (gss_cons (gs_ps (ps_set (i := 3) sc.nd rfl (.inl rfl) (pe_callB cr_lenM (by rfl) T.n_len PySem.boot_len (pa_cons (pe_callTy (cr_setOf (by rfl)) (by rfl) T.n_set (by decide +kernel) (pa_cons (pv 2) pa_nil)) pa_nil))))
      (gss_cons (PSW.gs_if (PW.pt (pw_and (pt_cmpR (op_eqD hr.units) (pe_callB (cr_sortK (by rfl)) (by rfl) T.n_sorted (by decide +kernel) (pa_cons (pe_callTy (cr_setOf (by rfl)) (by rfl) T.n_set (by decide +kernel) (pa_cons (pv 2) pa_nil)) pa_nil)) (pe_listRg (by rfl) (by rfl) T.n_list (prg_1 (by rfl) T.n_range (pv 3))) (nomark _)) (pw_and1 (PW.pt (pw_or (pt_cmpR op_isN (pv 1) pe_non (nomark _)) (pw_or1 (pt_cmpR op_le (pv 3) (pv 1) (nomark _)))))))) (gss_cons (gs_yield (pv 2))
      gss_nil) gss_nil)
      gss_nil)))
      gss_nil))), ?_⟩
    refine ⟨_, rfl, n, rfl, fun H1 s1 => ⟨_, rfl, iteF ?_⟩⟩
    refine ⟨_, rfl, _, _, rfl, rfl, _, rfl, ite2 (fun e => ?_) (fun _ => ?_)⟩
    · have := of_decide_eq_true e
      omega
    refine ⟨?_, ?_⟩
    · cases m with
      | none => exact ⟨_, rfl, rfl, _, rfl, iteF ⟨rfl, s1, rfl⟩⟩
      | some k => exact ⟨_, rfl, rfl, _, rfl, iteT ⟨_, rfl, k, rfl, fun H2 s2 => ⟨_, rfl, iteF ⟨rfl, s1.trans s2, rfl⟩⟩⟩⟩
    rintro σ H2 ⟨s2, rfl⟩
    refine ⟨_, rfl, _, rfl, RgOk.of_le (by omega) (by omega) (by omega) (by omega), fun A hA => ⟨_, rfl, A, rg n, n, rfl, ?_, by rw [rg_len]; exact n4, n4, fun p us H3 s3 hp tu => ⟨p, rfl, ⟨us, SqL.of hp⟩, ?_⟩⟩⟩
    · rw [← rgV_ints]
      exact upd_same
    have s3 := s2.trans ((same_new hA).trans s3)
    have lu := tu.len
    have lc := combos_len (rg n) n
    have p4 := pow4 (a := (rg n).length) (m := n) (by rw [rg_len]; exact n4) n4
    refine PSY.gfor_list (xs := us) (fun i ys σ G => Same H3 G ∧ (∃ y3 y4, σ = [some (.int n), some (mV m), y3, y4]) ∧ TupsAt G ys (((combos (rg n) n).take i).filter (good m))) ⟨Same.refl _, ⟨_, _, rfl⟩, trivial⟩ (fun i ys σ G _ z => SqL.of (z.1 _ _ hp)) ?_ ?_
    · rintro i x ys σ G hx ⟨k, ⟨y3, y4, rfl⟩, ty⟩
      obtain ⟨c, hc, b, rfl, hb⟩ := tu.at hx
      have lc2 : c.length = n := combo_each (rg n) n c (List.mem_of_getElem? hc)
      have hbG : G b = some (.tup ((ksI c).map kV)) := by rw [ksI_kv]; exact k _ _ hb
      have lk : (ksI c).length = n := by unfold ksI; rw [List.length_map, lc2]
      refine ⟨_, rfl, b, ksI c, rfl, .inr (SqT.of hbG), by omega, fun A1 hA1 => ⟨A1, _, rfl, upd_same, ?_⟩⟩
      have s4 : ∀ {o : HO}, Same G (upd G A1 o) := same_new hA1
      generalize hG1 : upd G A1 _ = G1
      have s4 : Same G G1 := hG1 ▸ s4
      have lS := len_sof (ksI c)
      have one : OneK (sof (ksI c)) := .inl fun k hk => by
        obtain ⟨i, _, rfl⟩ := List.mem_map.mp (mem_sof.mp hk)
        exact ⟨i, rfl⟩
      refine ⟨_, rfl, b, ksI c, rfl, .inr (SqT.of (s4 _ _ hbG)), by omega, fun A2 hA2 => ⟨A2, _, rfl, upd_same, by omega, one, fun zs p2 pw mem len hp2 => ?_⟩⟩
      have s5 : ∀ {o : HO}, Same G1 (upd G1 A2 o) := same_new hA2
      generalize hG2 : upd G1 A2 _ = G2 at hp2 ⊢
      have s5 : Same G1 G2 := hG2 ▸ s5
      have hmem : ∀ k, k ∈ zs ↔ k ∈ ksI c := fun k => (mem k).trans mem_sof
      obtain ⟨ns, rfl⟩ := inls_of (zs := zs) fun k hk => by
        obtain ⟨i, _, rfl⟩ := List.mem_map.mp ((hmem k).mp hk)
        exact ⟨i, rfl⟩
      have pwn : ns.Pairwise fun a b => a < b := (List.pairwise_map.mp pw).imp fun h => of_decide_eq_true h
      have memn : ∀ i, i ∈ ns ↔ i ∈ c := fun i => by
        have z := hmem (.inl i)
        unfold ksI at z
        rw [mem_map_inl, mem_map_inl] at z
        exact z
      have lenn : ns.length = cnt c := by
        rw [List.length_map] at len
        exact len
      have few : cnt c ≤ 4 := by
        have : cnt c = (sof (ksI c)).length := rfl
        omega
      have s6 := same_new (o := .lst ((ns.map (Sum.inl : Int → Key)).map kV)) hp2
      have a6 : upd G2 p2 (.lst ((ns.map (Sum.inl : Int → Key)).map kV)) p2 = some (.lst ((ns.map (Sum.inl : Int → Key)).map kV)) := upd_same
      rw [kv_inl] at s6 a6 ⊢
      generalize upd G2 p2 (.lst (ns.map V.int)) = G3 at s6 a6 ⊢
      refine ⟨_, rfl, _, rfl, RgOk.of_le (by omega) (by omega) (by omega) (by omega), fun A3 hA3 => ?_⟩
      have e7 : rgV 0 ((sof (ksI c)).length : Nat) = (rg (cnt c)).map V.int := rgV_ints _
      rw [e7]
      have s7 := same_new (o := .lst ((rg (cnt c)).map V.int)) hA3
      have a7 : upd G3 A3 (.lst ((rg (cnt c)).map V.int)) A3 = some (.lst ((rg (cnt c)).map V.int)) := upd_same
      generalize upd G3 A3 (.lst ((rg (cnt c)).map V.int)) = G4 at s7 a7 ⊢
      have sG : Same G G4 := s4.trans (s5.trans (s6.trans s7))
      have step : ∀ e : Bool, good m c = e → ((combos (rg n) n).take (i + 1)).filter (good m) = ((combos (rg n) n).take i).filter (good m) ++ (if e = true then [c] else []) := fun e he => by
        rw [List.take_add_one, hc, List.filter_append]
        congr 1
        show List.filter (good m) [c] = _
        cases e with
        | true => rw [List.filter_cons_of_pos he]; rfl
        | false => rw [List.filter_cons_of_neg (by rw [he]; exact Bool.false_ne_true)]; rfl
      have fl := full_sorted pwn memn lenn
      have hG4 : ∀ e, good m c = e → e = false → Same H3 G4 ∧ (∃ y3 y4, [some (V.int n), some (mV m), some (V.ref b), some (V.int ((sof (ksI c)).length : Nat))] = [some (V.int n), some (mV m), y3, y4]) ∧ TupsAt G4 ys (((combos (rg n) n).take (i + 1)).filter (good m)) := fun e he e0 => by
        subst e0
        rw [step _ he]
        exact ⟨k.trans sG, ⟨_, _, rfl⟩, by rw [if_neg Bool.false_ne_true, List.append_nil]; exact ty.mono sG⟩
      have yes : good m c = true → Same H3 G4 ∧ (∃ y3 y4, [some (V.int n), some (mV m), some (V.ref b), some (V.int ((sof (ksI c)).length : Nat))] = [some (V.int n), some (mV m), y3, y4]) ∧ TupsAt G4 (ys ++ [.ref b]) (((combos (rg n) n).take (i + 1)).filter (good m)) := fun he => by
        rw [step _ he]
        exact ⟨k.trans sG, ⟨_, _, rfl⟩, by rw [if_pos rfl]; exact (ty.mono sG).app ⟨⟨b, rfl, sG _ _ (k _ _ hb)⟩, trivial⟩⟩
      have ly : ys.length < sizeLine := by
        have z := ty.len
        have z2 := List.length_filter_le (good m) ((combos (rg n) n).take i)
        have z3 := List.length_take_le i (combos (rg n) n)
        have z4 : ((combos (rg n) n).take i).length ≤ (combos (rg n) n).length := by rw [List.length_take]; omega
        rw [sizeLine_eq]
        omega
      refine ⟨_, _, .lst (SqL.of (s7 _ _ a6)) (ints_dp ns), .lst (SqL.of a7) (ints_dp _), ints_shaped _, ints_shaped _, ?_⟩
      rw [eqv_ints, fl]
      refine ⟨_, rfl, ite2 (fun e => ?_) (fun e => ?_)⟩
      · cases m with
        | none =>
          refine ⟨_, rfl, rfl, _, rfl, iteT ?_⟩
          have g1 : good none c = true := by
            show (full c && true) = true
            rw [e]
            rfl
          exact ⟨ly, _, rfl, yes g1⟩
        | some k =>
          refine ⟨_, rfl, rfl, _, rfl, iteF ?_⟩
          refine ⟨_, rfl, _, rfl, _, _, rfl, rfl, _, rfl, ite2 (fun e2 => ?_) (fun e2 => ?_)⟩
          · have le : cnt c ≤ k := by
              have z := of_decide_eq_true e2
              have z2 : cnt c = (sof (ksI c)).length := rfl
              omega
            have g1 : good (some k) c = true := by
              show (full c && decide (cnt c ≤ k)) = true
              rw [e, decide_eq_true le]
              rfl
            exact ⟨ly, _, rfl, yes g1⟩
          · have nle : ¬ cnt c ≤ k := fun le => e2 (decide_eq_true (by
              have z2 : cnt c = (sof (ksI c)).length := rfl
              omega))
            have g1 : good (some k) c = false := by
              show (full c && decide (cnt c ≤ k)) = false
              rw [decide_eq_false nle, Bool.and_false]
            exact hG4 _ g1 rfl
      · have g1 : good m c = false := by
          show (full c && okM m c) = false
          rw [Bool.eq_false_iff.mpr e, Bool.false_and]
        exact hG4 _ g1 rfl
    · rintro ys σ G ⟨k, _, ty⟩
      rw [lu, List.take_length] at ty
      exact q ys G (s3.trans k) ty
end
end K19

set_option Elab.async false
set_option linter.all false
set_option maxRecDepth 100000
set_option maxHeartbeats 8000000
namespace K19
open PySem PySem.Spec L2 PSG PSS
theorem one_two {L : List Key} (h : OneK L) {a b : Key} (ha : a ∈ L) (hb : b ∈ L) : (isIK a ∧ isIK b) ∨ (isSK a ∧ isSK b) := h.imp (fun z => ⟨z a ha, z b hb⟩) fun z => ⟨z a ha, z b hb⟩
theorem kd_let {x : Str} (k : kd (.str x) ≠ 0) : allLet x = true ∧ x.length ≤ 12 := Classical.byContradiction fun n => k (kd_no n)
theorem nodup_le : ∀ {l m : List Key}, l.Nodup → (∀ x ∈ l, x ∈ m) → l.length ≤ m.length
  | [], _, _, _ => Nat.zero_le _
  | k :: l, m, n, h => by
    obtain ⟨n1, n2⟩ := List.nodup_cons.mp n
    have ih := nodup_le (l := l) (m := m.filter fun y => !decide (y = k)) n2 fun x hx => by
      refine List.mem_filter.mpr ⟨h x (List.mem_cons_of_mem _ hx), ?_⟩
      have ne : x ≠ k := fun e => n1 (e ▸ hx)
      simp [ne]
    have lt : (m.filter fun y => !decide (y = k)).length < m.length := by
      have le := List.length_filter_le (fun y => !decide (y = k)) m
      refine Nat.lt_of_le_of_ne le fun e => ?_
      have all := List.length_filter_eq_length_iff.mp e k (h k List.mem_cons_self)
      simp at all
    simp only [List.length_cons]
    omega
theorem ltK_trans {a b c : Key} (h : ltK a b = true) (g : ltK b c = true) : ltK a c = true := by
  cases a <;> cases b <;> cases c <;> simp only [ltK, decide_eq_true_eq, Bool.false_eq_true] at h g ⊢
  · omega
  · exact List.lt_trans h g
theorem rank_lt {ks : List Key} {a b : Key} (ha : a ∈ ks) (l : ltK a b = true) : rankK ks a < rankK ks b := by
  unfold rankK
  have n : (a :: sof (ks.filter fun x => ltK x a)).Nodup := List.nodup_cons.mpr ⟨fun m => (by
    have z := (List.mem_filter.mp (mem_sof.mp m)).2
    rw [ltK_irrefl] at z
    cases z), nd_sof _⟩
  have z := nodup_le n (m := sof (ks.filter fun x => ltK x b)) fun x hx => by
    rw [mem_sof]
    rcases List.mem_cons.mp hx with rfl | hx
    · exact List.mem_filter.mpr ⟨ha, l⟩
    · obtain ⟨h1, h2⟩ := List.mem_filter.mp (mem_sof.mp hx)
      exact List.mem_filter.mpr ⟨h1, ltK_trans h2 l⟩
  simp only [List.length_cons] at z
  omega
theorem str_eq {x y : Str} (h : x.cps.toList = y.cps.toList) : x = y := by
  obtain ⟨⟨a⟩⟩ := x
  obtain ⟨⟨b⟩⟩ := y
  cases h
  rfl
theorem ltK_total {a b : Key} (h : (isIK a ∧ isIK b) ∨ (isSK a ∧ isSK b)) (h1 : ltK a b = false) (h2 : ltK b a = false) : a = b := by
  rcases h with ⟨⟨i, rfl⟩, ⟨j, rfl⟩⟩ | ⟨⟨i, rfl⟩, ⟨j, rfl⟩⟩
  · have a1 := of_decide_eq_false h1
    have a2 := of_decide_eq_false h2
    rw [show i = j from by omega]
  · have a1 : ¬ i.cps.toList < j.cps.toList := of_decide_eq_false h1
    have a2 : ¬ j.cps.toList < i.cps.toList := of_decide_eq_false h2
    rw [str_eq (List.le_antisymm (List.not_lt.mp a2) (List.not_lt.mp a1))]
def sgK (a b : Key) : Int := if ltK a b = true then -1 else if ltK b a = true then 1 else 0
theorem sgn_key {d e : PyData} (k : kd d ≠ 0) (k2 : kd d = kd e) : sgn d e = sgK (kyD d) (kyD e) := by
  rcases same_kind k k2 with ⟨i, j, rfl, rfl⟩ | ⟨x, y, rfl, rfl, _⟩
  · unfold sgK
    simp only [sgn, kyD, ltK, decide_eq_true_eq]
  · unfold sgK
    simp only [sgn, kyD, ltK, decide_eq_true_eq]
theorem sgn_rank {ks : List Key} (one : OneK ks) {a b : Key} (ha : a ∈ ks) (hb : b ∈ ks) : sgn (.int ((rankK ks a : Nat) : Int)) (.int ((rankK ks b : Nat) : Int)) = sgK a b := by
  unfold sgK
  show (if ((rankK ks a : Nat) : Int) < ((rankK ks b : Nat) : Int) then (-1 : Int) else if ((rankK ks b : Nat) : Int) < ((rankK ks a : Nat) : Int) then 1 else 0) = _
  by_cases l1 : ltK a b = true
  · have z := rank_lt ha l1
    rw [if_pos l1, if_pos (by omega)]
  · by_cases l2 : ltK b a = true
    · have z := rank_lt hb l2
      rw [if_neg l1, if_pos l2, if_neg (by omega), if_pos (by omega)]
    · have e := ltK_total (one_two one ha hb) (by simpa using l1) (by simpa using l2)
      subst e
      rw [if_neg l1, if_neg l2, if_neg (by omega), if_neg (by omega)]
theorem kd_kind {ds : List PyData} (one : OneK (ds.map kyD)) {d e : PyData} (hd : d ∈ ds) (he : e ∈ ds) (k1 : kd d ≠ 0) (k2 : kd e ≠ 0) : kd d = kd e := by
  have z := one_two one (List.mem_map_of_mem (f := kyD) hd) (List.mem_map_of_mem (f := kyD) he)
  have st : ∀ {x : Str}, kd (.str x) ≠ 0 → kd (.str x) = 2 := fun {x} y => kd_yes (kd_let y)
  cases d with
  | int i => cases e with
    | int j => rfl
    | str y => rcases z with ⟨_, m, h⟩ | ⟨⟨m, h⟩, _⟩ <;> cases h
    | _ => exact absurd rfl k2
  | str x => cases e with
    | int j => rcases z with ⟨⟨m, h⟩, _⟩ | ⟨_, m, h⟩ <;> cases h
    | str y => rw [st k1, st k2]
    | _ => exact absurd rfl k2
  | _ => exact absurd rfl k1
theorem sgK_is (a b : Key) : sgK a b = -1 ∨ sgK a b = 0 ∨ sgK a b = 1 := by
  unfold sgK
  split
  · exact .inl rfl
  · split
    · exact .inr (.inr rfl)
    · exact .inr (.inl rfl)
/-- the thing that a key is -/
def dK : Key → PyData
  | .inl i => .int i
  | .inr x => .str x
theorem ky_dK (k : Key) : kyD (dK k) = k := by cases k <;> rfl
theorem dt_dK {far : Bool} {H : Hp} (k : Key) : Dt far H (kV k) (dK k) := by
  cases k with
  | inl i => exact .int i
  | inr x => exact .str x
theorem ky_map : ∀ L : List Key, (L.map dK).map kyD = L
  | [] => rfl
  | k :: L => by rw [List.map_cons, List.map_cons, ky_dK, ky_map L]
/-- a value of a column of texts, of numbers -/
def KOk (t : Bool) (k : Key) : Prop := if t = true then ∃ s : Str, k = .inr s ∧ allLet s = true ∧ s.length ≤ 2 else ∃ i : Int, k = .inl i
theorem va_k {t : Bool} {v : V} (h : VaOk t v) : ∃ k, v = kV k ∧ KOk t k := by
  cases t with
  | true =>
    obtain ⟨s, rfl, a, b⟩ := h
    exact ⟨.inr s, rfl, s, rfl, a, b⟩
  | false =>
    obtain ⟨i, rfl⟩ := h
    exact ⟨.inl i, rfl, i, rfl⟩
theorem kok_kd {t : Bool} {k : Key} (h : KOk t k) : kd (dK k) = if t = true then 2 else 1 := by
  cases t with
  | true =>
    obtain ⟨s, rfl, a, b⟩ := h
    exact kd_yes ⟨a, by omega⟩
  | false =>
    obtain ⟨i, rfl⟩ := h
    rfl
theorem kok_ne {t : Bool} {k : Key} (h : KOk t k) : kd (dK k) ≠ 0 := by
  rw [kok_kd h]
  cases t <;> decide
theorem kok_eq {t : Bool} {k j : Key} (h : KOk t k) (g : KOk t j) : kd (dK k) = kd (dK j) := by rw [kok_kd h, kok_kd g]
theorem kok_thing {t : Bool} {k : Key} (h : KOk t k) : Thing (dK k) := ⟨fun x e => by
  cases t with
  | true =>
    obtain ⟨s, rfl, a, b⟩ := h
    cases e
    omega
  | false =>
    obtain ⟨i, rfl⟩ := h
    cases e⟩
theorem kok_one {t : Bool} {L : List Key} (h : ∀ k ∈ L, KOk t k) : OneK L := by
  cases t with
  | true =>
    refine .inr fun k m => ?_
    obtain ⟨s, e, _⟩ := h k m
    exact ⟨s, e⟩
  | false => exact .inl fun k m => h k m
theorem kok_sgn {t : Bool} {a b : Key} (ha : KOk t a) (hb : KOk t b) : sgn (dK a) (dK b) = sgK a b := by
  rw [sgn_key (kok_ne ha) (kok_eq ha hb), ky_dK, ky_dK]
theorem kok_uni {t : Bool} {L : List Key} (h : ∀ k ∈ L, KOk t k) : uni (L.map dK) = true := by
  refine decide_eq_true ?_
  have same : ∀ k ∈ kinds (L.map dK), k = .inr (if t = true then "text" else "number") := fun k m => by
    obtain ⟨d, hd, rfl⟩ := List.mem_map.mp m
    obtain ⟨q, hq, rfl⟩ := List.mem_map.mp hd
    have z := h q hq
    cases t with
    | true =>
      obtain ⟨s, rfl, _⟩ := z
      rfl
    | false =>
      obtain ⟨s, rfl⟩ := z
      rfl
  exact nodup_le (nd_sof _) (m := [.inr (if t = true then "text" else "number")]) fun x hx => by
    rw [same x (mem_sof.mp hx)]
    exact List.mem_singleton.mpr rfl
/-! ranks -/
theorem ex_sorted : ∀ {L : List Key}, OneK L → ∃ zs : List Key, zs.Pairwise (fun a b => ltK a b = true) ∧ ∀ k, k ∈ zs ↔ k ∈ L
  | [], _ => ⟨[], List.Pairwise.nil, fun k => Iff.rfl⟩
  | k :: L, one => by
    obtain ⟨zs, pw, mem⟩ := ex_sorted (L := L) (one.imp (fun h x m => h x (List.mem_cons_of_mem _ m)) fun h x m => h x (List.mem_cons_of_mem _ m))
    by_cases hk : k ∈ zs
    · exact ⟨zs, pw, fun x => by
        rw [mem, List.mem_cons]
        exact ⟨.inr, fun h => h.elim (fun e => e ▸ (mem k).mp hk) id⟩⟩
    · refine ⟨zs.filter (fun x => ltK x k) ++ k :: zs.filter (fun x => ltK k x), ?_, fun x => ?_⟩
      · refine List.pairwise_append.mpr ⟨pw.filter _, List.pairwise_cons.mpr ⟨fun b hb => (List.mem_filter.mp hb).2, pw.filter _⟩, fun a ha b hb => ?_⟩
        have h1 := (List.mem_filter.mp ha).2
        rcases List.mem_cons.mp hb with rfl | hb
        · exact h1
        · exact ltK_trans h1 (List.mem_filter.mp hb).2
      · rw [List.mem_append, List.mem_cons, List.mem_filter, List.mem_filter, List.mem_cons]
        constructor
        · rintro (⟨h, _⟩ | h | ⟨h, _⟩)
          · exact .inr ((mem x).mp h)
          · exact .inl h
          · exact .inr ((mem x).mp h)
        · rintro (h | h)
          · exact .inr (.inl h)
          · have hz := (mem x).mpr h
            have two := one_two one (List.mem_cons_of_mem k h) List.mem_cons_self
            by_cases l1 : ltK x k = true
            · exact .inl ⟨hz, l1⟩
            · by_cases l2 : ltK k x = true
              · exact .inr (.inr ⟨hz, l2⟩)
              · exact .inr (.inl (ltK_total two (by simpa using l1) (by simpa using l2)))
def ranksK (L : List Key) : List Int := L.map fun k => ((rankK L k : Nat) : Int)
theorem ranks_dK (L : List Key) : ranks (L.map dK) = ranksK L := by
  unfold ranks ranksK
  rw [ky_map, List.map_map]
  refine List.map_congr_left fun k _ => ?_
  show ((rankK L (kyD (dK k)) : Nat) : Int) = _
  rw [ky_dK]
theorem ranksK_len (L : List Key) : (ranksK L).length = L.length := List.length_map ..
theorem nd_pw {zs : List Key} (pw : zs.Pairwise fun a b => ltK a b = true) : zs.Nodup := pw.imp fun {a b} l e => by rw [e, ltK_irrefl] at l; cases l
theorem mem_ranks {L : List Key} (one : OneK L) (x : Int) : x ∈ ranksK L ↔ x ∈ rg (sof L).length := by
  obtain ⟨zs, pw, mem⟩ := ex_sorted one
  have ln : zs.length = (sof L).length := ((List.perm_ext_iff_of_nodup (nd_pw pw) (nd_sof L)).mpr fun k => (mem k).trans mem_sof.symm).length_eq
  rw [← ln]
  unfold ranksK rg
  rw [List.mem_map, List.mem_map]
  constructor
  · rintro ⟨k, hk, rfl⟩
    obtain ⟨j, hj⟩ := List.mem_iff_getElem?.mp ((mem k).mpr hk)
    exact ⟨j, List.mem_range.mpr (List.getElem?_eq_some_iff.mp hj).1, by rw [rank_at pw mem hj]⟩
  · rintro ⟨j, hj, rfl⟩
    have lt := List.mem_range.mp hj
    have e := List.getElem?_eq_getElem lt
    exact ⟨zs[j], (mem _).mp (List.getElem_mem lt), by rw [rank_at pw mem e]⟩
theorem rg_nd (n : Nat) : (ksI (rg n)).Nodup := by
  unfold ksI rg
  rw [List.map_map]
  refine List.pairwise_map.mpr (List.nodup_range.imp fun {a b} ne e => ne ?_)
  have z : ((a : Nat) : Int) = (b : Nat) := Sum.inl.inj e
  omega
theorem mem_ksI {c : List Int} {x : Int} : (Sum.inl x : Key) ∈ ksI c ↔ x ∈ c := mem_map_inl
theorem ksI_is {c : List Int} {k : Key} (h : k ∈ ksI c) : ∃ x ∈ c, k = .inl x := by
  obtain ⟨x, hx, rfl⟩ := List.mem_map.mp h
  exact ⟨x, hx, rfl⟩
theorem cnt_of {c : List Int} {m : Nat} (h : ∀ x, x ∈ c ↔ x ∈ rg m) : cnt c = m := by
  have p : (sof (ksI c)).Perm (ksI (rg m)) := (List.perm_ext_iff_of_nodup (nd_sof _) (rg_nd m)).mpr fun k => by
    rw [mem_sof]
    constructor
    · intro z
      obtain ⟨x, hx, rfl⟩ := ksI_is z
      exact mem_ksI.mpr ((h x).mp hx)
    · intro z
      obtain ⟨x, hx, rfl⟩ := ksI_is z
      exact mem_ksI.mpr ((h x).mpr hx)
  have e := p.length_eq
  unfold cnt
  rw [e]
  unfold ksI
  rw [List.length_map, rg_len]
theorem full_of {c : List Int} {m : Nat} (h : ∀ x, x ∈ c ↔ x ∈ rg m) : full c = true := by
  unfold full
  rw [cnt_of h, List.all_eq_true]
  intro i hi
  have lt := List.mem_range.mp hi
  exact decide_eq_true ((h _).mpr (mem_rg.mpr ⟨by omega, by omega⟩))
theorem cnt_ranks {L : List Key} (one : OneK L) : cnt (ranksK L) = (sof L).length := cnt_of (mem_ranks one)
theorem mem_weaks {n : Nat} {m : Option Nat} {L : List Key} (one : OneK L) (l : L.length = n) : ranksK L ∈ weaks n m ↔ okM m (ranksK L) = true := by
  unfold weaks
  rw [List.mem_filter]
  have f := full_of (mem_ranks one)
  have c : ranksK L ∈ combos (rg n) n := mem_combos ((ranksK_len L).trans l) fun x hx => by
    have z := mem_rg.mp ((mem_ranks one x).mp hx)
    have z2 := len_sof L
    exact mem_rg.mpr ⟨z.1, by omega⟩
  unfold good
  rw [f, Bool.true_and]
  exact ⟨fun h => h.2, fun h => ⟨c, h⟩⟩
theorem mem_none {n : Nat} {L : List Key} (one : OneK L) (l : L.length = n) : ranksK L ∈ weaks n none := (mem_weaks one l).mpr rfl
theorem mem_some {n m : Nat} {L : List Key} (one : OneK L) (l : L.length = n) : decide (ranksK L ∈ weaks n (some m)) = decide ((sof L).length ≤ m) := by
  refine decide_eq_decide.mpr ((mem_weaks one l).trans ?_)
  show decide (cnt (ranksK L) ≤ m) = true ↔ _
  rw [cnt_ranks one, decide_eq_true_eq]
/-- the ranks of ranks are these ranks -/
theorem ranks_again {c : List Int} (f : full c = true) : ranksK (ksI c) = c := by
  have sub : ∀ x ∈ rg (cnt c), x ∈ c := fun x hx => by
    obtain ⟨h1, h2⟩ := mem_rg.mp hx
    have z := of_decide_eq_true (List.all_eq_true.mp f x.toNat (List.mem_range.mpr (by omega)))
    rw [show ((x.toNat : Nat) : Int) = x by omega] at z
    exact z
  have back : ∀ x ∈ c, x ∈ rg (cnt c) := fun x hx => by
    refine Classical.byContradiction fun n => ?_
    have nd : (Sum.inl x :: ksI (rg (cnt c)) : List Key).Nodup := List.nodup_cons.mpr ⟨fun z => n (mem_ksI.mp z), rg_nd _⟩
    have z := nodup_le nd (m := sof (ksI c)) fun y hy => by
      rw [mem_sof]
      rcases List.mem_cons.mp hy with rfl | hy
      · exact mem_ksI.mpr hx
      · obtain ⟨u, hu, rfl⟩ := ksI_is hy
        exact mem_ksI.mpr (sub u hu)
    rw [List.length_cons, show (ksI (rg (cnt c))).length = cnt c from by unfold ksI; rw [List.length_map, rg_len]] at z
    have z2 : (sof (ksI c)).length = cnt c := rfl
    omega
  have pw : (ksI (rg (cnt c))).Pairwise fun a b => ltK a b = true := by
    unfold ksI rg
    rw [List.map_map]
    refine List.pairwise_map.mpr (List.pairwise_lt_range.imp fun {a b} lt => ?_)
    show decide (((a : Nat) : Int) < (b : Nat)) = true
    exact decide_eq_true (by omega)
  have mem : ∀ k, k ∈ ksI (rg (cnt c)) ↔ k ∈ ksI c := fun k => by
    constructor
    · intro z
      obtain ⟨x, hx, rfl⟩ := ksI_is z
      exact mem_ksI.mpr (sub x hx)
    · intro z
      obtain ⟨x, hx, rfl⟩ := ksI_is z
      exact mem_ksI.mpr (back x hx)
  have each : ∀ x ∈ c, ((rankK (ksI c) (.inl x) : Nat) : Int) = x := fun x hx => by
    obtain ⟨h1, h2⟩ := mem_rg.mp (back x hx)
    have lt : x.toNat < (ksI (rg (cnt c))).length := by
      unfold ksI
      rw [List.length_map, rg_len]
      omega
    have at_ : (ksI (rg (cnt c)))[x.toNat]? = some (.inl x) := by
      unfold ksI rg
      rw [List.map_map, List.getElem?_map, List.getElem?_range (by omega)]
      show some (Sum.inl ((x.toNat : Nat) : Int)) = _
      rw [show ((x.toNat : Nat) : Int) = x by omega]
    rw [rank_at pw mem at_]
    omega
  unfold ranksK
  have e : (ksI c).map (fun k => ((rankK (ksI c) k : Nat) : Int)) = c.map fun x => ((rankK (ksI c) (.inl x) : Nat) : Int) := by
    show (c.map Sum.inl).map _ = _
    rw [List.map_map]
    rfl
  rw [e]
  have id_ : c.map (fun x => ((rankK (ksI c) (.inl x) : Nat) : Int)) = c.map id := List.map_congr_left fun x hx => each x hx
  rw [id_, List.map_id]
theorem ranks_weak {n : Nat} {m : Option Nat} {c : List Int} (h : c ∈ weaks n m) : ranksK (ksI c) = c ∧ c.length = n := by
  obtain ⟨h1, h2⟩ := List.mem_filter.mp h
  exact ⟨ranks_again (by
    unfold good at h2
    exact (Bool.and_eq_true_iff.mp h2).1), combo_each (rg n) n c h1⟩
end K19

set_option Elab.async false
set_option linter.all false
set_option maxRecDepth 100000
set_option maxHeartbeats 8000000
namespace K19
open PySem PySem.Spec L2 PSG PSS
open PyProof.Rows (IntsAre AllBare)
abbrev s__law_vector : Stmt := topS 55
theorem sc__law_vector : FnScope ["_law_one", "_law_other", "_law_value_here", "_law_second"] ["_law_one", "_law_other"] (defScope s__law_vector) := ⟨rfl, rfl, rfl, by decide +kernel, rfl, by decide +kernel, by decide +kernel⟩
abbrev s__law_first : Stmt := topS 56
theorem sc__law_first : FnScope ["_law_names", "_law_entries_here", "_law_vector_here", "_law_name", "_law_way", "_law_sign"] ["_law_names", "_law_entries_here", "_law_vector_here"] (defScope s__law_first) := ⟨rfl, rfl, rfl, by decide +kernel, rfl, by decide +kernel, by decide +kernel⟩
theorem w_zip {K : PySem.W.Frag} {a b : Addr} {xs ys : List V} {B : (Hp → Prop) → V → Hp → Prop} {Qd : Hp → Prop} {H0 : Hp} (le : ys.length = xs.length) (Pv : Nat → Hp → Prop) (h0 : Pv 0 H0) (hl : ∀ i H, i ≤ xs.length → Pv i H → SqL K H a xs ∧ SqL K H b ys)
    (hs : ∀ i x y H T, xs[i]? = some x → ys[i]? = some y → Pv i H → H T = none → B (Pv (i + 1)) (.ref T) (upd H T (.tup [x, y]))) (hd : ∀ H, Pv xs.length H → Qd H) :
    ∃ W : Nat → Nat → Hp → Prop, (∃ m, W 0 m H0) ∧ ∀ i m H, W i m H → ((Itz K a b).stop i H ∧ Qd H) ∨ ((Itz K a b).go i H ∧ ∃ Nx : Hp → Prop, (∀ H', Nx H' → ∃ m', m' < m ∧ W (i + 1) m' H') ∧ ∀ x H', (Itz K a b).yld i H x H' → B Nx x H') := by
  refine w_run xs.length Pv h0 (fun i H le2 p => ?_) hd
  obtain ⟨q1, q2⟩ := hl i H le2 p
  by_cases lt : i < xs.length
  · have lt2 : i < ys.length := by omega
    refine .inr ⟨lt, ⟨xs, ys, xs[i], ys[i], q1, q2, List.getElem?_eq_getElem lt, List.getElem?_eq_getElem lt2⟩, fun x H' y => ?_⟩
    obtain ⟨T, u, v, rfl, hT, rfl, y1, y2⟩ := y
    exact hs i u v H T (y1 xs q1) (y2 ys q2) p hT
  · exact .inl ⟨by omega, xs, ys, q1, q2, .inl (by omega)⟩
def look {β : Type} : List Str → List β → Str → Option β
  | n :: N, v :: vs, x => if n = x then some v else look N vs x
  | _, _, _ => none
theorem look_at {β : Type} : ∀ {N : List Str} {vs : List β} {j : Nat} {x : Str} {v : β}, N.Nodup → N[j]? = some x → vs[j]? = some v → look N vs x = some v
  | [], _, _, _, _, _, h, _ => by simp at h
  | _ :: _, [], _, _, _, _, _, h => by simp at h
  | n :: N, w :: vs, 0, x, v, _, h, k => by
    cases h
    cases k
    exact if_pos rfl
  | n :: N, w :: vs, j + 1, x, v, nd, h, k => by
    obtain ⟨n1, n2⟩ := List.nodup_cons.mp nd
    have h' : N[j]? = some x := by simpa using h
    have k' : vs[j]? = some v := by simpa using k
    have ne : n ≠ x := fun z => n1 (by rw [z]; exact List.mem_of_getElem? h')
    show (if n = x then some w else look N vs x) = some v
    rw [if_neg ne]
    exact look_at n2 h' k'
theorem merge_new : ∀ {more acc : List (Key × V)}, ((acc ++ more).map (·.1)).Nodup → mergeK acc more = acc ++ more
  | [], acc, _ => (List.append_nil acc).symm
  | p :: r, acc, h => by
    have e : valV acc p.1 = none := by
      cases z : valV acc p.1 with
      | none => rfl
      | some v =>
        have m := valV_in z
        rw [List.map_append, List.nodup_append] at h
        exact absurd rfl (h.2.2 _ m p.1 (List.mem_map_of_mem List.mem_cons_self))
    show mergeK (putK acc p.1 p.2) r = _
    rw [putK_new _ e]
    have h2 : acc ++ p :: r = (acc ++ [(p.1, p.2)]) ++ r := by simp
    rw [merge_new (by rw [← h2]; exact h), h2]
theorem paired_at {α β : Type} {R : α → β → Prop} : ∀ {xs : List α} {ys : List β}, xs.length = ys.length → (∀ (j : Nat) x y, xs[j]? = some x → ys[j]? = some y → R x y) → Paired R xs ys
  | [], [], _, _ => .nil
  | x :: xs, y :: ys, l, h => .cons (h 0 x y rfl rfl) (paired_at (Nat.succ.inj l) fun j a b p q => h (j + 1) a b (by simpa using p) (by simpa using q))

/-- a row of values of these kinds -/
structure RowOk (ts : List Bool) (r : List Key) : Prop where
  len : r.length = ts.length
  ok : ∀ (j : Nat) t k, ts[j]? = some t → r[j]? = some k → KOk t k
/-- the signs of two rows -/
def vec (r q : List Key) : List Int := List.zipWith sgK r q
theorem vec_len {ts : List Bool} {r q : List Key} (h : RowOk ts r) (k : RowOk ts q) : (vec r q).length = ts.length := by
  unfold vec
  rw [List.length_zipWith, h.len, k.len, Nat.min_self]
theorem vec_small (r q : List Key) : Small (vec r q) := fun i hi => by
  unfold vec at hi
  obtain ⟨j, hj⟩ := List.mem_iff_getElem?.mp hi
  rw [List.getElem?_zipWith] at hj
  cases h1 : r[j]? with
  | none => rw [h1] at hj; cases hj
  | some a =>
    cases h2 : q[j]? with
    | none => rw [h1, h2] at hj; cases hj
    | some b =>
      rw [h1, h2] at hj
      cases hj
      rcases sgK_is a b with e | e | e <;> rw [e] <;> omega
theorem sgK_swap (a b : Key) : sgK b a = -(sgK a b) := by
  unfold sgK
  by_cases l1 : ltK a b = true
  · simp [l1, ltK_asymm l1]
  · by_cases l2 : ltK b a = true <;> simp [l1, l2]
theorem vec_swap : ∀ (r q : List Key), (vec r q).map (fun i => -i) = vec q r
  | [], [] => rfl
  | [], _ :: _ => rfl
  | _ :: _, [] => rfl
  | a :: r, b :: q => by
    show -(sgK a b) :: (vec r q).map (fun i => -i) = sgK b a :: vec q r
    rw [vec_swap r q, sgK_swap a b]
def pairsK : List Str → List Int → List (Key × V)
  | n :: N, i :: is => (Sum.inr n, V.int i) :: pairsK N is
  | _, _ => []
theorem pairsK_len : ∀ {N : List Str} {is : List Int}, is.length = N.length → (pairsK N is).length = N.length
  | [], [], _ => rfl
  | [], _ :: _, h => by cases h
  | _ :: _, [], h => by cases h
  | n :: N, i :: is, h => congrArg (· + 1) (pairsK_len (N := N) (is := is) (Nat.succ.inj h))
theorem pairsK_at : ∀ {N : List Str} {is : List Int} {j : Nat} {x : Str} {i : Int}, N[j]? = some x → is[j]? = some i → (pairsK N is)[j]? = some (Sum.inr x, V.int i)
  | [], _, _, _, _, h, _ => by simp at h
  | _ :: _, [], _, _, _, _, h => by simp at h
  | n :: N, w :: vs, 0, x, v, h, k => by
    cases h
    cases k
    rfl
  | n :: N, w :: vs, j + 1, x, v, h, k => by
    show (pairsK N vs)[j]? = _
    exact pairsK_at (by simpa using h) (by simpa using k)
theorem pairsK_keys : ∀ {N : List Str} {is : List Int}, is.length = N.length → (pairsK N is).map (·.1) = N.map fun n => (Sum.inr n : Key)
  | [], [], _ => rfl
  | [], _ :: _, h => by cases h
  | _ :: _, [], h => by cases h
  | n :: N, i :: is, h => congrArg ((Sum.inr n : Key) :: ·) (pairsK_keys (N := N) (is := is) (Nat.succ.inj h))
/-- the sign that the dict of a vector gives -/
def gV (N : List Str) (is : List Int) (x : Str) : Int := (look N is x).getD 0
theorem val_pairs : ∀ (N : List Str) (is : List Int) (x : Str), (valV (pairsK N is) (Sum.inr x)).getD (.int 0) = .int (gV N is x)
  | [], is, x => by
    cases is <;> rfl
  | n :: N, [], x => rfl
  | n :: N, i :: is, x => by
    unfold gV
    show (valV ((Sum.inr n, V.int i) :: pairsK N is) (Sum.inr x)).getD (.int 0) = .int ((if n = x then some i else look N is x).getD 0)
    by_cases e : n = x
    · subst e
      rw [if_pos rfl, valV_pos rfl]
      rfl
    · rw [if_neg e, valV_neg (fun z => e (Sum.inr.inj z))]
      exact val_pairs N is x
/-- the sign of a vector by entries -/
def oS (N : List Str) (E : List Ent) (is : List Int) : Int := sgE (gV N is) E
section
variable {K : PySem.W.Frag}
/-- dict(list(zip(names, vector))) -/
theorem zd {H : Hp} {a b : Addr} {N : List Str} {is : List Int} (ha : H a = some (.lst (N.map V.str))) (hb : H b = some (.tup (is.map V.int))) (l : is.length = N.length) (nd : N.Nodup) (few : N.length ≤ 6) {R : Addr → Hp → Addr → List (Key × V) → Prop}
    (h : ∀ q H' d, mergeK [] (pairsK N is) = pairsK N is → Same H (upd H' d (.dK (pairsK N is))) → R q H' d (pairsK N is)) :
    ∃ a' b' xs ys, [V.ref a, V.ref b] = [.ref a', .ref b'] ∧ SqL K H a' xs ∧ SqT K H b' ys ∧ ys.length = xs.length ∧ xs.length ≤ sizeLine ∧
      ∀ (q : Addr) (H' : Hp) (ps : List Addr), H q = none → (∀ b o, H b = some o → H' b = some o) → H' q = some (.lst (ps.map V.ref)) → ps.length = xs.length → (∀ (j : Nat) p, ps[j]? = some p → ∃ x y, xs[j]? = some x ∧ ys[j]? = some y ∧ H' p = some (.tup [x, y])) →
        ∃ (a : Addr) (ps : List Addr) (kvs : List (Key × V)), [V.ref q] = [.ref a] ∧ SqL K H' a (ps.map V.ref) ∧ Paired (fun p kv => SqT K H' p [kV kv.1, kv.2]) ps kvs ∧ ∀ p, H' p = none → R q H' p kvs := by
  refine ⟨a, b, _, _, rfl, SqL.of ha, SqT.of hb, by rw [List.length_map, List.length_map, l], by rw [List.length_map, sizeLine_eq]; omega, fun q H' ps hq k hq' lp each => ?_⟩
  rw [List.length_map] at lp
  have lpk := pairsK_len l
  have mg : mergeK [] (pairsK N is) = pairsK N is := by
    rw [merge_new]
    · rfl
    · rw [List.nil_append, pairsK_keys l]
      exact List.pairwise_map.mpr (nd.imp fun {a b} ne e => ne (Sum.inr.inj e))
  refine ⟨q, ps, pairsK N is, rfl, SqL.of hq', paired_at (by omega) fun j p kv hp hk => ?_, fun d hd => ?_⟩
  · obtain ⟨x, y, hx, hy, hT⟩ := each j p hp
    have lj := (List.getElem?_eq_some_iff.mp hp).1
    have hN : N[j]? = some N[j] := List.getElem?_eq_getElem (by omega)
    have hI : is[j]? = some is[j] := List.getElem?_eq_getElem (by omega)
    rw [List.getElem?_map, hN] at hx
    rw [List.getElem?_map, hI] at hy
    cases hx
    cases hy
    rw [pairsK_at hN hI] at hk
    cases hk
    exact SqT.of hT
  · exact h q H' d mg (Same.trans (show Same H H' from k) (same_new hd))
end
section
variable {P : Program} {w : World} {K : PySem.W.Frag} {mg : Str → Option Value} {base : Heap}
def spLVec : Sp := fun vs H Q _ => ∃ (a b : Addr) (ts : List Bool) (r q : List Key), vs = [.ref a, .ref b] ∧ H a = some (.lst (r.map kV)) ∧ H b = some (.lst (q.map kV)) ∧ RowOk ts r ∧ RowOk ts q ∧ ts.length ≤ 6 ∧ ∀ p H', Same H H' → H p = none → H' p = some (.tup ((vec r q).map V.int)) → Q (.ref p) H'
theorem ok_lvec {f f1 : Addr} {fd d1 : FuncData} (F : Fun K "_law_vector" "_law_vector" s__law_vector f fd) (T : Blt mg) (F_sign_of : Fun K "sign_of" "sign_of" s_sign_of f1 d1) (b_sign_of : Binds K d1 ["one", "other"] []) (g_sign_of : mg "sign_of" = some (.ref f1)) (G_sign_of : FnOk P w K mg base CX0 3 f1 d1 ["one", "other"] spSign) :
    FnOk P w K mg base CX0 4 f fd ["_law_one", "_law_other"] spLVec := by
  have sc := sc__law_vector
  refine F.ok sc (fun vs H Q E h => ?_) (fun cdv A outer s H vs Q E hr h => ?_)
  · obtain ⟨a, b, ts, r, q, rfl, _⟩ := h
    rfl
  · obtain ⟨a, b, ts, r, u, rfl, ha, hb, rr, ru, few, q⟩ := h
    refine ⟨_, (pss_one (ps_ret (pe_callTy call_tuple_of (by rfl) T.n_tuple (by decide +kernel) (pa_cons (pe_lc (own := [("_law_value_here", 2), ("_law_second", 3)]) (g := gTup K 2 _) (tt := tYes) (by rfl) sc.nd (pi_zip (by rfl) T.n_zip (pa_cons (pv 0) (pa_cons (pv 1) pa_nil))) (blkOk_by (own := [("_law_value_here", 2), ("_law_second", 3)]) (N := ["_law_one", "_law_other", "_law_value_here", "_law_second"]) (sc := defScope s__law_vector) (by decide +kernel)) (fun _ _ _ _ _ => pg_tup (by rfl) (pgs_cons (pg_name (i := 2) sc.nd rfl (Or.inl rfl)) (pgs_cons (pg_name (i := 3) sc.nd rfl (Or.inl rfl)) pgs_nil))) (fun _ _ _ _ _ => pts_nil) (fun _ _ _ _ _ => (pe_call G_sign_of (hr.mono (by decide)) (by rfl) g_sign_of F_sign_of.kp b_sign_of .nil pass0 (pa_cons (pv 2) (pa_cons (pv 3) pa_nil))))) pa_nil)))), ?_⟩
    have lr := rr.len
    have lu := ru.len
    refine ⟨_, rfl, _, rfl, a, b, _, _, rfl, SqL.of ha, SqL.of hb, fun D hD => ?_⟩
    have lv := vec_len rr ru
    refine w_zip (xs := r.map kV) (ys := u.map kV) (by rw [List.length_map, List.length_map, lr, lu]) (fun m G => Same H G ∧ G D = some (.lst (((vec r u).take m).map V.int))) ⟨same_new hD, upd_same⟩ (fun m G _ z => ⟨SqL.of (z.1 _ _ ha), SqL.of (z.1 _ _ hb)⟩) ?_ ?_
    · rintro m x y G TT hx hy ⟨k, aD⟩ hTT
      rw [List.getElem?_map] at hx hy
      cases h1 : r[m]? with
      | none => rw [h1] at hx; cases hx
      | some x1 =>
      cases h2 : u[m]? with
      | none => rw [h2] at hy; cases hy
      | some y1 =>
      rw [h1] at hx
      rw [h2] at hy
      cases hx
      cases hy
      have ml : m < ts.length := by
        have := (List.getElem?_eq_some_iff.mp h1).1
        omega
      have ht : ts[m]? = some ts[m] := List.getElem?_eq_getElem ml
      have o1 := rr.ok m _ _ ht h1
      have o2 := ru.ok m _ _ ht h2
      have nT : D ≠ TT := ne_of_none aD hTT
      have kT : Same G (upd G TT (.tup [kV x1, kV y1])) := same_new hTT
      have aT : upd G TT (.tup [kV x1, kV y1]) TT = some (.tup [kV x1, kV y1]) := upd_same
      generalize upd G TT (.tup [kV x1, kV y1]) = G1 at kT aT ⊢
      refine ⟨TT, _, rfl, SqT.of aT, rfl, _, _, rfl, _, _, rfl, rfl, ?_⟩
      refine ⟨rfl, ?_⟩
      refine ⟨_, rfl, _, rfl, kV x1, kV y1, dK x1, dK y1, rfl, dt_dK x1, dt_dK y1, kok_thing o1, kok_thing o2, kok_ne o1, kok_eq o1 o2, fun H1 s1 => ⟨_, (kT.trans s1) _ _ aD, ?_, ?_, ?_⟩⟩
      · rw [List.length_map, List.length_take, lv, sizeLine_eq]
        omega
      · exact fun b' o z => (upd_ne (ne_of_none z hD)).trans ((kT.trans s1) _ _ (k _ _ z))
      · have e2 : (vec r u)[m]? = some (sgK x1 y1) := by
          unfold vec
          rw [List.getElem?_zipWith, h1, h2]
        rw [upd_same, List.take_add_one, e2, List.map_append, kok_sgn o1 o2]
        rfl
    · rintro G ⟨k, aD⟩
      have el : (r.map kV).length = (vec r u).length := by rw [List.length_map, lr, lv]
      rw [el, List.take_length] at aD
      exact ⟨D, _, rfl, .inl ⟨SqL.of aD, fun l hl => q l _ (k.trans (same_new hl)) (k.free hl) upd_same⟩⟩
def spFirst : Sp := fun vs H Q _ => ∃ (a e v : Addr) (N : List Str) (xs : List V) (E : List Ent) (is : List Int), vs = [.ref a, .ref e, .ref v] ∧ H a = some (.lst (N.map V.str)) ∧ H e = some (.lst xs) ∧ EntsAt H xs E ∧ H v = some (.tup (is.map V.int)) ∧ N.Nodup ∧ is.length = N.length ∧ (∀ en ∈ E, en.1 ∈ N) ∧ ∀ H', Same H H' → Q (.int (oS N E is)) H'
theorem ok_first {f : Addr} {fd : FuncData} (F : Fun K "_law_first" "_law_first" s__law_first f fd) :
    FnOk P w K mg base CX0 1 f fd ["_law_names", "_law_entries_here", "_law_vector_here"] spFirst := by
  have sc := sc__law_first
  refine F.ok sc (fun vs H Q E h => ?_) (fun cdv A outer s H vs Q E hr h => ?_)
  · obtain ⟨a, e, v, N, xs, E, is, rfl, _⟩ := h
    rfl
  · obtain ⟨a, e, v, N, xs, E, is, rfl, ha, he, hE, hv, nd, li, inN, q⟩ := h
    refine ⟨_, (pss_cons (ps_for PassesOwn.never (by rfl) (pi_list (pv 1)) (pg_tup (by rfl) (pgs_cons (pg_name (i := 3) sc.nd rfl (.inl rfl)) (pgs_cons (pg_name (i := 4) sc.nd rfl (.inl rfl)) pgs_nil))) (pss_cons (ps_set (i := 5) sc.nd rfl (.inl rfl) (pe_ix ix_tup (pv 2) (pe_bm PySem.F.plainAttrs_list PySem.F.slot_list_index PySem.F.type_list_index mt_index (pv 0) (pa_cons (pv 3) pa_nil)) (fun _ _ => rfl)))
      (pss_one (ps_if (pt_cmpR op_ne (pv 5) pe_int (nomark _)) (pss_one (ps_ret (pe_ifExp (pt_cmpR op_eq (pv 4) pe_str (nomark _)) (pv 5) (pe_op op_sub pe_int (pv 5))))) pss_nil))))
      (pss_one (ps_ret pe_int))), ?_⟩
    have lE := hE.len
    refine ⟨_, rfl, e, rfl, ⟨_, SqL.of he⟩, for_list (xs := xs) (fun i σ G => ∃ y3 y4 y5, σ = [some (.ref a), some (.ref e), some (.ref v), y3, y4, y5] ∧ Same H G ∧ ∀ j en, j < i → E[j]? = some en → gV N is en.1 = 0) ⟨none, none, none, rfl, Same.refl _, fun j en lt => by omega⟩ (fun i σ G _ ⟨_, _, _, _, k, _⟩ => SqL.of (k _ _ he)) ?_ ?_⟩
    · rintro i x σ G hx ⟨y3, y4, y5, rfl, k, z⟩
      obtain ⟨en, hen, b, rfl, hb⟩ := hE.at hx
      obtain ⟨j, hj⟩ := List.mem_iff_getElem?.mp (inN en (List.mem_of_getElem? hen))
      have jl := (List.getElem?_eq_some_iff.mp hj).1
      have hi : is[j]? = some is[j] := List.getElem?_eq_getElem (by omega)
      have gv : gV N is en.1 = is[j] := by
        unfold gV
        rw [look_at nd hj hi]
        rfl
      have fl : (N.map V.str).all flatV = true := List.all_eq_true.mpr fun y hy => by
        obtain ⟨z, _, rfl⟩ := List.mem_map.mp hy
        rfl
      have hNj : (N.map V.str)[j]? = some (.str en.1) := by rw [List.getElem?_map, hj]; rfl
      have hIj : (is.map V.int)[j]? = some (.int is[j]) := by rw [List.getElem?_map, hi]; rfl
      refine ⟨b, _, rfl, SqT.of (k _ _ hb), rfl, _, _, rfl, _, _, rfl, rfl, ?_⟩
      refine ⟨_, rfl, _, rfl, .inl ⟨rfl, _, SqL.of (k _ _ ha)⟩, _, rfl, a, _, _, j, _, rfl, rfl, SqL.of (k _ _ ha), rfl, fl, hNj, ?_, fun m z' lt hm => ?_, v, _, j, _, rfl, rfl, SqT.of (k _ _ hv), atI_nat hIj, ?_⟩
      · show (en.1 == en.1) = true
        exact beq_self_eq_true _
      · rw [List.getElem?_map] at hm
        cases h1 : N[m]? with
        | none => rw [h1] at hm; cases hm
        | some y =>
          rw [h1] at hm
          cases hm
          show (y == en.1) = false
          refine beq_false_of_ne fun e1 => ?_
          subst e1
          have ml := (List.getElem?_eq_some_iff.mp h1).1
          have z1 := (List.getElem?_eq_some_iff.mp h1).2
          have z2 := (List.getElem?_eq_some_iff.mp hj).2
          exact absurd (List.getElem_inj nd |>.mp (z1.trans z2.symm)) (by omega)
      · have dec : ∀ i j : Int, decide (V.int i = V.int j) = decide (i = j) := fun i j => decide_eq_decide.mpr ⟨fun z => V.int.inj z, fun z => congrArg V.int z⟩
        have ei : sgE (gV N is) E = sgE (gV N is) (E.drop i) := sgE_zero z
        have ed : E.drop i = en :: E.drop (i + 1) := by
          obtain ⟨lt, ee⟩ := List.getElem?_eq_some_iff.mp hen
          rw [← ee]
          exact List.drop_eq_getElem_cons lt
        refine ⟨_, rfl, rfl, _, rfl, ite2 (fun e5 => ?_) (fun e5 => ?_)⟩
        · have ne : ¬ gV N is en.1 = 0 := by rw [gv]; simpa using e5
          have eq : oS N E is = if en.2 then -(gV N is en.1) else gV N is en.1 := by
            unfold oS
            rw [ei, ed]
            exact if_neg ne
          rw [eq, gv] at q
          refine ⟨_, rfl, rfl, _, rfl, ite2 (fun e6 => ?_) (fun e6 => ?_)⟩
          · have dn : en.2 = false := by
              cases h2 : en.2 with
              | false => rfl
              | true =>
                rw [h2] at e6
                exact absurd e6 (by decide +kernel)
            have q' := q G k
            rw [dn, if_neg Bool.false_ne_true] at q'
            exact ⟨_, rfl, q'⟩
          · have dn : en.2 = true := by
              cases h2 : en.2 with
              | true => rfl
              | false =>
                rw [h2] at e6
                exact absurd (by decide +kernel) e6
            have q' := q G k
            rw [dn, if_pos rfl] at q'
            refine ⟨_, rfl, _, _, rfl, rfl, ?_⟩
            have q2 : Q (.int (0 - is[j])) G := by rw [Int.zero_sub]; exact q'
            exact q2
        · have ze : gV N is en.1 = 0 := by rw [gv]; simpa using e5
          refine ⟨_, _, _, rfl, k, fun j2 en2 lt he2 => ?_⟩
          by_cases e7 : j2 = i
          · subst e7
            rw [hen] at he2
            cases he2
            exact ze
          · exact z j2 en2 (by omega) he2
    · rintro σ G ⟨y3, y4, y5, rfl, k, z⟩
      have q' := q G k
      unfold oS at q'
      rw [sgE_zero (i := E.length) (fun j en lt he => z j en (by omega) he), List.drop_length] at q'
      exact q'
end
end K19

set_option Elab.async false
set_option linter.all false
set_option maxRecDepth 100000
set_option maxHeartbeats 8000000
namespace K19
open PySem PySem.Spec L2 PSG PSS
open PyProof.Rows (IntsAre AllBare)
abbrev s__law_columns_right : Stmt := topS 57
theorem sc__law_columns_right : FnScope ["_law_rows", "_law_many", "_law_spot", "_law_values", "_law_ranks", "_law_one", "_law_other", "_law_row"] ["_law_rows", "_law_many"] (defScope s__law_columns_right) := ⟨rfl, rfl, rfl, by decide +kernel, rfl, by decide +kernel, by decide +kernel⟩

/-- a row stands as a list of its values -/
def RowAt (H : Hp) (v : V) (r : List Key) : Prop := ∃ b, v = .ref b ∧ H b = some (.lst (r.map kV))
theorem RowAt.same {H H' : Hp} {v : V} {r : List Key} (h : RowAt H v r) (k : Same H H') : RowAt H' v r := by
  obtain ⟨b, e, h⟩ := h
  exact ⟨b, e, k _ _ h⟩
/-- rows at addresses -/
structure RowsAt (H : Hp) (us : List V) (R : List (List Key)) : Prop where
  len : us.length = R.length
  at_ : ∀ (i : Nat) v, us[i]? = some v → ∃ r, R[i]? = some r ∧ RowAt H v r
theorem RowsAt.same {H H' : Hp} {us : List V} {R : List (List Key)} (h : RowsAt H us R) (k : Same H H') : RowsAt H' us R := ⟨h.len, fun i v e => by
  obtain ⟨r, a, b⟩ := h.at_ i v e
  exact ⟨r, a, b.same k⟩⟩
structure Tab (ts : List Bool) (R : List (List Key)) : Prop where
  ok : ∀ r ∈ R, RowOk ts r
  few : ts.length ≤ 6
def colK (R : List (List Key)) (j : Nat) : List Key := R.map fun r => r.getD j (.inl 0)
theorem row_get {ts : List Bool} {r : List Key} (h : RowOk ts r) {j : Nat} (l : j < ts.length) : ∃ t k, ts[j]? = some t ∧ r[j]? = some k ∧ r.getD j (.inl 0) = k ∧ KOk t k := by
  have l2 : j < r.length := by
    have := h.len
    omega
  have h1 : ts[j]? = some ts[j] := List.getElem?_eq_getElem l
  have h2 : r[j]? = some r[j] := List.getElem?_eq_getElem l2
  refine ⟨ts[j], r[j], h1, h2, ?_, h.ok j _ _ h1 h2⟩
  rw [List.getD_eq_getElem?_getD, h2]
  rfl
theorem col_ok {ts : List Bool} {R : List (List Key)} (h : Tab ts R) {j : Nat} (l : j < ts.length) : ∀ k ∈ colK R j, KOk ts[j] k := fun k hk => by
  obtain ⟨r, hr, rfl⟩ := List.mem_map.mp hk
  obtain ⟨t, k, h1, h2, h3, h4⟩ := row_get (h.ok r hr) l
  rw [List.getElem?_eq_getElem l] at h1
  cases h1
  rw [h3]
  exact h4
theorem dts_dK {far : Bool} {H : Hp} : ∀ L : List Key, DtAll far H (L.map kV) (L.map dK)
  | [] => .nil
  | k :: L => .cons (dt_dK k) (dts_dK L)
theorem rep_int {H : Hp} {s : Int} {Q : VK} (hs : s = -1 ∨ s = 0 ∨ s = 1) (q : Q (.str (PyData.int s).shown) H) : rRep [.int s] H Q := by
  have f : Fine (.int s) := by
    rcases hs with rfl | rfl | rfl <;> exact fine_dec (by decide +kernel)
  exact ⟨.int s, .int s, false, rfl, .int _, fun z => by simp [PyData.hasDict] at z, f.sh, by have := f.ln; rw [sizeLine_eq]; omega, by have := f.dp; omega, q⟩
section
variable {P : Program} {w : World} {K : PySem.W.Frag} {mg : Str → Option Value} {base : Heap}
def spCols : Sp := fun vs H Q _ => ∃ (a : Addr) (us : List V) (R : List (List Key)) (ts : List Bool), vs = [.ref a, .int (ts.length : Nat)] ∧ H a = some (.lst us) ∧ RowsAt H us R ∧ Tab ts R ∧ 1 ≤ R.length ∧ R.length ≤ 4 ∧ ∀ H', Same H H' → Q (.bl true) H'
theorem ok_cols {kws : List (Str × V)} {f f1 f2 f3 f4 : Addr} {fd d1 d2 d3 d4 : FuncData} {dvs : List V} {ds1 : List Value} (F : Fun K "_law_columns_right" "_law_columns_right" s__law_columns_right f fd) (T : Blt mg)
    (F_weak_order_of : Fun K "weak_order_of" "weak_order_of" s_weak_order_of f1 d1) (b_weak_order_of : Binds K d1 ["values"] []) (g_weak_order_of : mg "weak_order_of" = some (.ref f1)) (G_weak_order_of : FnOk P w K mg base CX0 3 f1 d1 ["values"] (spWeak K))
    (F_weak_orders : FunD K "weak_orders" "weak_orders" (defArgs s_weak_orders) (defBody s_weak_orders) (defScope s_weak_orders) dvs kws f2 d2) (b_weak_orders : Binds K d2 ["count", "most"] []) (b1_weak_orders : Binds K d2 ["count", "most"] ds1) (v1_weak_orders : Vals [V.non] ds1) (g_weak_orders : mg "weak_orders" = some (.ref f2)) (G_weak_orders : GFn P w K mg base 4 f2 d2 ["count", "most"] spWO)
    (F_pair_sign : Fun K "pair_sign" "pair_sign" s_pair_sign f3 d3) (b_pair_sign : Binds K d3 ["ranks", "first", "second"] []) (g_pair_sign : mg "pair_sign" = some (.ref f3)) (G_pair_sign : FnOk P w K mg base CX0 2 f3 d3 ["ranks", "first", "second"] spPairSign)
    (F_sign_of : Fun K "sign_of" "sign_of" s_sign_of f4 d4) (b_sign_of : Binds K d4 ["one", "other"] []) (g_sign_of : mg "sign_of" = some (.ref f4)) (G_sign_of : FnOk P w K mg base CX0 3 f4 d4 ["one", "other"] spSign) :
    FnG P w K mg base CX0 8 f fd ["_law_rows", "_law_many"] spCols := by
  have sc := sc__law_columns_right
  refine okG F sc (fun vs H Q E h => ?_) (fun cdv B up s H vs Q E hr gd h => ?_)
  · obtain ⟨a, us, R, ts, rfl, _⟩ := h
    rfl
  · obtain ⟨a, us, R, ts, rfl, ha, hR, tab, l1, l4, q⟩ := h
    refine ⟨_, (pss_cons (ps_for PassesOwn.never (by rfl) (pi_range1 (by rfl) T.n_range (pa_cons (pv 1) pa_nil)) (pg_name (i := 2) sc.nd rfl (.inr rfl)) (pss_cons (ps_setLc (i := 3) (own := [("_law_row", 7)]) (g := gName 7) (tt := tYes) (by rfl) sc.nd rfl rfl (sw_true rfl rfl rfl (by decide +kernel)) (pi_list (pv 0)) (blkOk_by (own := [("_law_row", 7)]) (N := ["_law_rows", "_law_many", "_law_spot", "_law_values", "_law_ranks", "_law_one", "_law_other", "_law_row"]) (sc := defScope s__law_columns_right) (by decide +kernel)) (fun _ _ _ _ _ => pg_name (i := 7) sc.nd rfl (Or.inl rfl)) (fun _ _ _ _ _ => pts_nil) (fun _ _ _ _ _ => (pe_ix (show IxR _ (rIxL K) from ix_list) (pv 7) (pv 2) (fun _ _ => rfl))))
      (pss_cons (ps_set (i := 4) sc.nd rfl (.inl rfl) (pe_call G_weak_order_of (hr.mono (by decide)) (by rfl) g_weak_order_of F_weak_order_of.kp b_weak_order_of .nil pass0 (pa_cons (pv 3) pa_nil)))
      (pss_cons (ps_if (PW.pt (pw_or (pt_not (pt_val (pe_callB call_isi (by rfl) T.n_isinstance (by decide +kernel) (pa_cons (pv 4) (pa_cons (pe_bltn (v := .ty "tuple") (by rfl) T.n_tuple (by decide +kernel) rfl) pa_nil))))) (pw_or1 (pt_cmpR (op_notInD (PSY.hu65 hr)) (pv 4) (pe_listG (pgen_call G_weak_orders (hr.mono (by decide)) (by rfl) g_weak_orders F_weak_orders.kp b1_weak_orders v1_weak_orders (pa_cons (pe_callB call_len_seq (by rfl) T.n_len PySem.boot_len (pa_cons (pv 3) pa_nil)) pa_nil)) PSY.passG0 PSY.nostop0 (hr.mono (by decide)) (by rfl) T.n_list (by decide +kernel)) (by first | exact nomark _ | rfl))))) (pss_one (ps_ret pe_bl)) pss_nil)
      (pss_cons (ps_if (pt_cmpR (op_notInD (PSY.hu65 hr)) (pv 4) (pe_listG (pgen_call G_weak_orders (hr.mono (by decide)) (by rfl) g_weak_orders F_weak_orders.kp b_weak_orders .nil (pa_cons (pe_callB call_len_seq (by rfl) T.n_len PySem.boot_len (pa_cons (pv 3) pa_nil)) (pa_cons (pe_callB cr_lenM (by rfl) T.n_len PySem.boot_len (pa_cons (pe_callTy (cr_setOf (by rfl)) (by rfl) T.n_set (by decide +kernel) (pa_cons (pv 3) pa_nil)) pa_nil)) pa_nil))) PSY.passG0 PSY.nostop0 (hr.mono (by decide)) (by rfl) T.n_list (by decide +kernel)) (by first | exact nomark _ | rfl)) (pss_one (ps_ret pe_bl)) pss_nil)
      (C8.pss_cut (ps_if (PW.pt (pw_and (pt_cmpR op_gt (pe_callB cr_lenM (by rfl) T.n_len PySem.boot_len (pa_cons (pe_callTy (cr_setOf (by rfl)) (by rfl) T.n_set (by decide +kernel) (pa_cons (pv 3) pa_nil)) pa_nil)) pe_int (nomark _)) (pw_and1 (pt_cmpR (op_inD (PSY.hu65 hr)) (pv 4) (pe_listG (pgen_call G_weak_orders (hr.mono (by decide)) (by rfl) g_weak_orders F_weak_orders.kp b_weak_orders .nil (pa_cons (pe_callB call_len_seq (by rfl) T.n_len PySem.boot_len (pa_cons (pv 3) pa_nil)) (pa_cons (pe_op op_sub (pe_callB cr_lenM (by rfl) T.n_len PySem.boot_len (pa_cons (pe_callTy (cr_setOf (by rfl)) (by rfl) T.n_set (by decide +kernel) (pa_cons (pv 3) pa_nil)) pa_nil)) pe_int) pa_nil))) PSY.passG0 PSY.nostop0 (hr.mono (by decide)) (by rfl) T.n_list (by decide +kernel)) (by first | exact nomark _ | rfl))))) (pss_one (ps_ret pe_bl)) pss_nil)
      (pss_one (ps_for PassesOwn.never (by rfl) (pi_range1 (by rfl) T.n_range (pa_cons (pe_callB call_len_seq (by rfl) T.n_len PySem.boot_len (pa_cons (pv 3) pa_nil)) pa_nil)) (pg_name (i := 5) sc.nd rfl (.inl rfl)) (pss_one (ps_for PassesOwn.never (by rfl) (pi_range1 (by rfl) T.n_range (pa_cons (pe_callB call_len_seq (by rfl) T.n_len PySem.boot_len (pa_cons (pv 3) pa_nil)) pa_nil)) (pg_name (i := 6) sc.nd rfl (.inl rfl)) (pss_one (ps_if (pt_cmpR op_ne (pe_callB (call_reprH (by have z := room_units hr; exact z) gd) (by rfl) T.n_repr (by decide +kernel) (pa_cons (pe_call G_pair_sign (hr.mono (by decide)) (by rfl) g_pair_sign F_pair_sign.kp b_pair_sign .nil pass0 (pa_cons (pv 4) (pa_cons (pv 5) (pa_cons (pv 6) pa_nil)))) pa_nil)) (pe_callB (call_reprH (by have z := room_units hr; exact z) gd) (by rfl) T.n_repr (by decide +kernel) (pa_cons (pe_call G_sign_of (hr.mono (by decide)) (by rfl) g_sign_of F_sign_of.kp b_sign_of .nil pass0 (pa_cons (pe_ix ix_list (pv 3) (pv 5) (fun _ _ => rfl)) (pa_cons (pe_ix ix_list (pv 3) (pv 6) (fun _ _ => rfl)) pa_nil))) pa_nil)) (nomark _)) (pss_one (ps_ret pe_bl)) pss_nil))))))))))))
      (pss_one (ps_ret pe_bl))), ?_⟩
    have few := tab.few
    have lu := hR.len
    refine ⟨_, rfl, _, rfl, by omega, by omega, ?_⟩
    refine for_range (lo := 0) (n := ts.length) (fun m σ G => ∃ y2 y3 y4 y5 y6 y7, σ = [some (.ref a), some (.int (ts.length : Nat)), y2, y3, y4, y5, y6, y7] ∧ Same H G) ⟨_, _, _, _, _, _, rfl, Same.refl _⟩ ?_ ?_
    · rintro m σ G hm ⟨y2, y3, y4, y5, y6, y7, rfl, k⟩
      have lc : (colK R m).length = R.length := List.length_map ..
      have okc := col_ok tab hm
      refine ⟨_, rfl, a, rfl, ⟨us, SqL.of (k _ _ ha)⟩, fun D hD => ?_⟩
      refine lc_list (xs := us) (fun i G' => Same G G' ∧ G' D = some (.lst (((colK R m).take i).map kV))) ⟨same_new hD, upd_same⟩ (fun i G' _ z => SqL.of (z.1 _ _ (k _ _ ha))) ?_ ?_
      · rintro i x G' hx ⟨k1, aD⟩
        obtain ⟨r, hr2, b, rfl, hb⟩ := hR.at_ i x hx
        obtain ⟨t, kk, h1, h2, h3, h4⟩ := row_get (tab.ok r (List.mem_of_getElem? hr2)) hm
        have hk : (r.map kV)[m]? = some (kV kk) := by rw [List.getElem?_map, h2]; rfl
        have e2 : (colK R m)[i]? = some kk := by
          unfold colK
          rw [List.getElem?_map, hr2]
          exact congrArg some h3
        refine ⟨rfl, ?_⟩
        refine ⟨_, rfl, _, rfl, b, _, _, _, rfl, rfl, SqL.of (k1 _ _ (k _ _ hb)), by rw [Int.zero_add]; exact atI_nat hk, _, aD, ?_, fun b' o z => (upd_ne (ne_of_none z hD)).trans (k1 _ _ z), ?_⟩
        · rw [List.length_map, List.length_take, lc, sizeLine_eq]
          omega
        · rw [upd_same, List.take_add_one, e2, List.map_append]
          rfl
      · rintro G0 ⟨k1, aD⟩
        rw [lu, ← lc, List.take_length] at aD
        have kG := k.trans k1
        generalize hL : colK R m = L at *
        have one := kok_one okc
        have uni_ := kok_uni okc
        have le4 : L.length ≤ 4 := by omega
        have lS := len_sof L
        refine ⟨_, rfl, D, L.map kV, L.map dK, rfl, .inl (SqL.of aD), dts_dK L, (fun d hd => by
          obtain ⟨k0, hk0, rfl⟩ := List.mem_map.mp hd
          exact kok_thing (okc k0 hk0)), by rw [List.length_map]; omega, (fun d hd => by
          obtain ⟨k0, hk0, rfl⟩ := List.mem_map.mp hd
          exact kok_ne (okc k0 hk0)), uni_, fun p G1 G2 s1 hp hG2 => ?_⟩
        rw [ranks_dK] at hG2
        have aP : G2 p = some (.tup ((ranksK L).map V.int)) := by rw [hG2]; exact upd_same
        have s2 : Same G0 G2 := by rw [hG2]; exact s1.trans (same_new hp)
        have aD2 := s2 _ _ aD
        clear hG2
        have hdp : Dt true G2 (.ref p) (.tuple ((ranksK L).map PyData.int)) := .tup aP (ints_dt _)
        refine ⟨_, rfl, .ref p, .ty "tuple", _, _, _, rfl, .ty _, Dt.ty hdp, kit_tuple _, _, rfl, iteF ?_⟩
        refine ⟨_, rfl, _, rfl, D, _, rfl, .inl (SqL.of aD2), L.length, none, by rw [List.length_map]; rfl, le4, fun ws G3 s3 tw q3 hq3 => ?_⟩
        have s4 := s3.trans (same_new (o := .lst ws) hq3)
        have tw4 := tw.mono (same_new (o := .lst ws) hq3)
        have a4 : upd G3 q3 (.lst ws) q3 = some (.lst ws) := upd_same
        generalize upd G3 q3 (.lst ws) = G4 at s4 tw4 a4 ⊢
        refine ⟨tD (ranksK L), _, .tup (SqT.of (s4 _ _ aP)) (ints_dp _), .lst (SqL.of a4) (tups_dp tw4), tints_shaped _, tDs_shaped _, ?_⟩
        rw [tDs_any, decide_eq_true (mem_none one rfl)]
        refine ⟨_, rfl, iteF ?_⟩
        have aD4 := s4 _ _ aD2
        refine ⟨_, rfl, _, rfl, D, _, rfl, .inl (SqL.of aD4), _, rfl, D, L, rfl, .inl (SqL.of aD4), by omega, fun A5 hA5 => ⟨A5, _, rfl, upd_same, L.length, some (sof L).length, by rw [List.length_map]; rfl, le4, fun ws2 G5 s5 tw5 q5 hq5 => ?_⟩⟩
        have s6 : Same G4 (upd G5 q5 (.lst ws2)) := (same_new hA5).trans (s5.trans (same_new hq5))
        have tw6 := tw5.mono (same_new (o := .lst ws2) hq5)
        have a6 : upd G5 q5 (.lst ws2) q5 = some (.lst ws2) := upd_same
        generalize upd G5 q5 (.lst ws2) = G6 at s6 tw6 a6 ⊢
        refine ⟨tD (ranksK L), _, .tup (SqT.of ((s4.trans s6) _ _ aP)) (ints_dp _), .lst (SqL.of a6) (tups_dp tw6), tints_shaped _, tDs_shaped _, ?_⟩
        rw [tDs_any, mem_some one rfl, decide_eq_true (Nat.le_refl _)]
        refine ⟨_, rfl, iteF ?_⟩
        have aD6 := s6 _ _ aD4
        have aP6 := (s4.trans s6) _ _ aP
        have k6 : Same H G6 := kG.trans (s2.trans (s4.trans s6))
        clear tw6 a6 tw4 a4
        refine ⟨fun σ' H' => σ' = [some (.ref a), some (.int (ts.length : Nat)), some (.int (0 + (m : Nat))), some (.ref D), some (.ref p), y5, y6, y7] ∧ Same G6 H', ?_, ?_⟩
        · refine ⟨_, rfl, D, L, rfl, .inl (SqL.of aD6), by omega, fun A7 hA7 => ⟨A7, _, rfl, upd_same, _, _, rfl, rfl, _, rfl, ite2 (fun e => ?_) (fun e => ?_)⟩⟩
          · have gt : 1 < (sof L).length := by
              have z := of_decide_eq_true e
              omega
            have s7 : ∀ {o : HO}, Same G6 (upd G6 A7 o) := same_new hA7
            generalize hG7 : upd G6 A7 _ = G7
            have s7 : Same G6 G7 := hG7 ▸ s7
            have aD7 := s7 _ _ aD6
            refine ⟨_, rfl, _, rfl, D, _, rfl, .inl (SqL.of aD7), _, rfl, D, L, rfl, .inl (SqL.of aD7), by omega, fun A8 hA8 => ⟨A8, _, rfl, upd_same, _, _, rfl, rfl, L.length, some ((sof L).length - 1), ?_, le4, fun ws3 G8 s8 tw8 q8 hq8 => ?_⟩⟩
            · have e1 : (((sof L).length : Nat) : Int) - 1 = (((sof L).length - 1 : Nat) : Int) := by omega
              rw [List.length_map]
              show [V.int (L.length : Nat), V.int ((((sof L).length : Nat) : Int) - 1)] = [V.int (L.length : Nat), V.int (((sof L).length - 1 : Nat) : Int)]
              rw [e1]
            · have s9 : Same G7 (upd G8 q8 (.lst ws3)) := (same_new hA8).trans (s8.trans (same_new hq8))
              have tw9 := tw8.mono (same_new (o := .lst ws3) hq8)
              have a9 : upd G8 q8 (.lst ws3) q8 = some (.lst ws3) := upd_same
              generalize upd G8 q8 (.lst ws3) = G9 at s9 tw9 a9 ⊢
              refine ⟨tD (ranksK L), _, .tup (SqT.of ((s7.trans s9) _ _ aP6)) (ints_dp _), .lst (SqL.of a9) (tups_dp tw9), tints_shaped _, tDs_shaped _, ?_⟩
              rw [tDs_any, mem_some one rfl, decide_eq_false (by omega)]
              exact ⟨_, rfl, iteF ⟨rfl, s7.trans s9⟩⟩
          · exact ⟨rfl, same_new hA7⟩
        · rintro σ G7 ⟨rfl, k7⟩
          have aD7 := k7 _ _ aD6
          have lLV : (L.map kV).length = L.length := List.length_map ..
          refine ⟨_, rfl, D, _, rfl, .inl (SqL.of aD7), _, rfl, by omega, by omega, ?_⟩
          refine for_range (lo := 0) (n := ((L.map kV).length : Int).toNat) (fun i σ G => ∃ z5 z6, σ = [some (.ref a), some (.int (ts.length : Nat)), some (.int (0 + (m : Nat))), some (.ref D), some (.ref p), z5, z6, y7] ∧ Same G6 G) ⟨_, _, rfl, k7⟩ ?_ ?_
          · rintro i σ G8 hi ⟨z5, z6, rfl, k8⟩
            refine ⟨_, rfl, D, _, rfl, .inl (SqL.of (k8 _ _ aD6)), _, rfl, by omega, by omega, ?_⟩
            refine for_range (lo := 0) (n := ((L.map kV).length : Int).toNat) (fun j σ G => ∃ z6, σ = [some (.ref a), some (.int (ts.length : Nat)), some (.int (0 + (m : Nat))), some (.ref D), some (.ref p), some (.int (0 + (i : Nat))), z6, y7] ∧ Same G6 G) ⟨_, rfl, k8⟩ ?_ ?_
            · rintro j σ G9 hj ⟨z6, rfl, k9⟩
              have il : i < L.length := by omega
              have jl : j < L.length := by omega
              have ei : L[i]? = some L[i] := List.getElem?_eq_getElem il
              have ej : L[j]? = some L[j] := List.getElem?_eq_getElem jl
              have oi := okc L[i] (List.getElem_mem il)
              have oj := okc L[j] (List.getElem_mem jl)
              have ri : (ranksK L)[i]? = some ((rankK L L[i] : Nat) : Int) := by unfold ranksK; rw [List.getElem?_map, ei]; rfl
              have rj : (ranksK L)[j]? = some ((rankK L L[j] : Nat) : Int) := by unfold ranksK; rw [List.getElem?_map, ej]; rfl
              have vi : (L.map kV)[i]? = some (kV L[i]) := by rw [List.getElem?_map, ei]; rfl
              have vj : (L.map kV)[j]? = some (kV L[j]) := by rw [List.getElem?_map, ej]; rfl
              have s1 := sgn_rank one (List.getElem_mem il) (List.getElem_mem jl)
              have s2 := kok_sgn oi oj
              have small := sgK_is L[i] L[j]
              have aD9 := k9 _ _ aD6
              refine ⟨_, rfl, _, rfl, _, rfl, p, ranksK L, i, j, _, _, by rw [Int.zero_add, Int.zero_add]; rfl, k9 _ _ aP6, ri, rj, ?_⟩
              rw [s1]
              dsimp only [tNil]
              refine rep_int small ?_
              refine ⟨_, rfl, _, rfl, D, _, _, _, rfl, rfl, SqL.of aD9, by rw [Int.zero_add]; exact atI_nat vi, _, rfl, _, rfl, D, _, _, _, rfl, rfl, SqL.of aD9, by rw [Int.zero_add]; exact atI_nat vj, ?_⟩
              refine ⟨kV L[i], kV L[j], dK L[i], dK L[j], rfl, dt_dK _, dt_dK _, kok_thing oi, kok_thing oj, kok_ne oi, kok_eq oi oj, fun H1 s10 => ?_⟩
              rw [s2]
              dsimp only [tNil]
              refine rep_int small ?_
              refine ⟨rfl, _, rfl, ite2 (fun e => ?_) (fun e => ?_)⟩
              · simp at e
              · exact ⟨_, rfl, k9.trans s10⟩
            · rintro σ G9 ⟨z6, rfl, k9⟩
              exact ⟨_, _, rfl, k9⟩
          · rintro σ G8 ⟨z5, z6, rfl, k8⟩
            exact ⟨_, _, _, _, _, _, rfl, k6.trans k8⟩
    · rintro σ G ⟨y2, y3, y4, y5, y6, y7, rfl, k⟩
      exact q G k
end
end K19

set_option Elab.async false
set_option linter.all false
set_option maxRecDepth 100000
set_option maxHeartbeats 8000000
namespace K19
open PySem PySem.Spec L2 PSG PSS
open PyProof.Rows (IntsAre AllBare)
abbrev s__law_vectors_right : Stmt := topS 58
theorem sc__law_vectors_right : FnScope ["_law_names", "_law_entries_here", "_law_order", "_law_rows", "_law_one", "_law_other", "_law_vector_here", "_law_back", "_law_signs"] ["_law_names", "_law_entries_here", "_law_order", "_law_rows"] (defScope s__law_vectors_right) := ⟨rfl, rfl, rfl, by decide +kernel, rfl, by decide +kernel, by decide +kernel⟩
def Sg (x : Int) : Prop := x = -1 ∨ x = 0 ∨ x = 1
theorem sgE_sg {g : Str → Int} : ∀ {E : List Ent}, (∀ e ∈ E, Sg (g e.1)) → Sg (sgE g E)
  | [], _ => .inr (.inl rfl)
  | e :: r, h => by
    have h0 := h e List.mem_cons_self
    have ih := sgE_sg fun x m => h x (List.mem_cons_of_mem _ m)
    unfold Sg at *
    unfold sgE
    split
    · exact ih
    · split <;> omega
theorem el_small {i : Int} (h : -1 ≤ i ∧ i ≤ 1) : El (.int i) := by
  have e : i = -1 ∨ i = 0 ∨ i = 1 := by omega
  rcases e with rfl | rfl | rfl
  · exact el_dec (by decide +kernel)
  · exact el_dec (by decide +kernel)
  · exact el_dec (by decide +kernel)
theorem fine_vec {is : List Int} (h : Small is) (few : is.length ≤ 21) : Fine (.tuple (is.map PyData.int)) := fine_tuple (by rw [List.length_map]; exact few) fun d hd => by
  obtain ⟨i, hi, rfl⟩ := List.mem_map.mp hd
  exact el_small (h i hi)

theorem sgE_negG {g : Str → Int} : ∀ E : List Ent, sgE (fun x => -(g x)) E = -(sgE g E)
  | [] => rfl
  | e :: r => by
    have ih := sgE_negG (g := g) r
    show (if -(g e.1) = 0 then sgE (fun x => -(g x)) r else if e.2 = true then -(-(g e.1)) else -(g e.1)) = -(if g e.1 = 0 then sgE g r else if e.2 = true then -(g e.1) else g e.1)
    rw [ih]
    by_cases z : g e.1 = 0
    · rw [if_pos z, if_pos (by omega)]
    · rw [if_neg z, if_neg (by omega)]
      by_cases d : e.2 = true
      · rw [if_pos d, if_pos d]
      · rw [if_neg d, if_neg d]
theorem look_map {α β : Type} (f : α → β) : ∀ (N : List Str) (is : List α) (x : Str), look N (is.map f) x = (look N is x).map f
  | [], is, x => by cases is <;> rfl
  | n :: N, [], x => rfl
  | n :: N, i :: is, x => by
    show (if n = x then some (f i) else look N (is.map f) x) = (if n = x then some i else look N is x).map f
    rw [look_map f N is x]
    split <;> rfl
theorem look_mem {α : Type} : ∀ {N : List Str} {is : List α} {x : Str} {v : α}, look N is x = some v → v ∈ is
  | [], is, x, v, h => by cases is <;> cases h
  | n :: N, [], x, v, h => by cases h
  | n :: N, i :: is, x, v, h => by
    have h2 : (if n = x then some i else look N is x) = some v := h
    split at h2
    · cases h2
      exact List.mem_cons_self
    · exact List.mem_cons_of_mem _ (look_mem h2)
theorem gV_neg (N : List Str) (is : List Int) (x : Str) : gV N (is.map fun i => -i) x = -(gV N is x) := by
  unfold gV
  rw [look_map]
  cases look N is x <;> rfl
theorem oS_neg (N : List Str) (E : List Ent) (is : List Int) : oS N E (is.map fun i => -i) = -(oS N E is) := by
  unfold oS
  have e : gV N (is.map fun i => -i) = fun x => -(gV N is x) := funext fun x => gV_neg N is x
  rw [e]
  exact sgE_negG E
theorem gV_sg {N : List Str} {is : List Int} (h : Small is) (x : Str) : Sg (gV N is x) := by
  unfold gV Sg
  cases e : look N is x with
  | none => exact .inr (.inl rfl)
  | some v =>
    have z := h v (look_mem e)
    show v = -1 ∨ v = 0 ∨ v = 1
    omega
theorem oS_sg (N : List Str) (E : List Ent) {is : List Int} (h : Small is) : Sg (oS N E is) := sgE_sg fun e _ => gV_sg h e.1
theorem ints_nodict : ∀ ns : List Int, PyData.hasDictAll (ns.map PyData.int) = false
  | [] => by simp [PyData.hasDictAll]
  | a :: r => by
    rw [List.map_cons, PyData.hasDictAll, ints_nodict r]
    simp [PyData.hasDict]
def twoT (a b : List Int) : Str := (PyData.list [.tuple (a.map PyData.int), .tuple (b.map PyData.int)]).shown
theorem two_fine {a b : List Int} (sa : Small a) (sb : Small b) (la : a.length ≤ 21) (lb : b.length ≤ 21) : (PyData.list [.tuple (a.map PyData.int), .tuple (b.map PyData.int)]).showable = true ∧ (PyData.list [.tuple (a.map PyData.int), .tuple (b.map PyData.int)]).shown.length ≤ sizeLine ∧ (PyData.list [.tuple (a.map PyData.int), .tuple (b.map PyData.int)]).depth ≤ 60 := by
  have fa := fine_vec sa la
  have fb := fine_vec sb lb
  refine ⟨by simp only [PyData.showable, PyData.showableAll] at *; simp [fa.sh, fb.sh, PyData.showable, PyData.showableAll] at *; exact ⟨by simpa [PyData.showable] using fa.sh, by simpa [PyData.showable] using fb.sh⟩, ?_, ?_⟩
  · have l := listText_len_le (PyData.shownAll [.tuple (a.map PyData.int), .tuple (b.map PyData.int)])
    have l1 := fa.ln
    have l2 := fb.ln
    simp only [PyData.shownAll, List.map_cons, List.map_nil, List.sum_cons, List.sum_nil, List.length_cons, List.length_nil] at l
    show (listText (PyData.shownAll [.tuple (a.map PyData.int), .tuple (b.map PyData.int)])).length ≤ sizeLine
    simp only [PyData.shownAll]
    rw [sizeLine_eq]
    omega
  · have d1 := fa.dp
    have d2 := fb.dp
    simp only [PyData.depth, PyData.depthAll] at *
    omega
theorem rep_twoT {H : Hp} {L a b : Addr} {ia ib : List Int} {Q : VK} (hL : H L = some (.lst [.ref a, .ref b])) (ha : H a = some (.tup (ia.map V.int))) (hb : H b = some (.tup (ib.map V.int))) (sa : Small ia) (sb : Small ib) (la : ia.length ≤ 21) (lb : ib.length ≤ 21) (q : Q (.str (twoT ia ib)) H) : rRep [.ref L] H Q := by
  obtain ⟨f1, f2, f3⟩ := two_fine sa sb la lb
  exact ⟨_, _, false, rfl, .lst hL (fun z => nomatch z) (.cons (.tup ha (ints_dt _)) (.cons (.tup hb (ints_dt _)) .nil)), fun z => absurd z (by simp [PyData.hasDict, PyData.hasDictAll, ints_nodict]), f1, f2, f3, q⟩
theorem gives_pairs {H : Hp} {d : Addr} {N : List Str} {is : List Int} {E : List Ent} (h : H d = some (.dK (pairsK N is))) : GivesS H d (gV N is) E := ⟨_, h, fun e _ => val_pairs N is e.1⟩
end K19

set_option Elab.async false
set_option linter.all false
set_option maxRecDepth 100000
set_option maxHeartbeats 8000000
namespace K19
open PySem PySem.Spec L2 PSG PSS
open PyProof.Rows (IntsAre AllBare)

section
variable {P : Program} {w : World} {K : PySem.W.Frag} {mg : Str → Option Value} {base : Heap}
def spVecs (C : Addr) : Sp := fun vs H Q _ => ∃ (aN aE pO aR : Addr) (N : List Str) (E : List Ent) (xs us : List V) (R : List (List Key)) (ts : List Bool), vs = [.ref aN, .ref aE, .ref pO, .ref aR] ∧ H aN = some (.lst (N.map V.str)) ∧ H aE = some (.lst xs) ∧ EntsAt H xs E ∧ OrdAt C H pO E ∧ H aR = some (.lst us) ∧ RowsAt H us R ∧ Tab ts R ∧
  N.length = ts.length ∧ N.Nodup ∧ (∀ en ∈ E, en.1 ∈ N) ∧ ∀ H', Same H H' → Q (.bl true) H'
theorem ok_vecs {C f f1 f2 f3 f4 f5 f6 : Addr} {fd d1 d2 d3 d4 d5 d6 : FuncData} (F : Fun K "_law_vectors_right" "_law_vectors_right" s__law_vectors_right f fd) (T : Blt mg) (O : OrdC K mg C)
    (F__law_vector : Fun K "_law_vector" "_law_vector" s__law_vector f1 d1) (b__law_vector : Binds K d1 ["_law_one", "_law_other"] []) (g__law_vector : mg "_law_vector" = some (.ref f1)) (G__law_vector : FnOk P w K mg base CX0 4 f1 d1 ["_law_one", "_law_other"] spLVec)
    (F_turned : Fun K "turned" "turned" s_turned f2 d2) (b_turned : Binds K d2 ["vector"] []) (g_turned : mg "turned" = some (.ref f2)) (G_turned : FnOk P w K mg base CX0 4 f2 d2 ["vector"] spTurned)
    (F_vector_text : Fun K "vector_text" "vector_text" s_vector_text f3 d3) (b_vector_text : Binds K d3 ["vector"] []) (g_vector_text : mg "vector_text" = some (.ref f3)) (G_vector_text : FnOk P w K mg base CX0 4 f3 d3 ["vector"] spText)
    (F_read_vector : Fun K "read_vector" "read_vector" s_read_vector f4 d4) (b_read_vector : Binds K d4 ["text"] []) (g_read_vector : mg "read_vector" = some (.ref f4)) (G_read_vector : FnOk P w K mg base CX0 4 f4 d4 ["text"] spRead)
    (F__law_first : Fun K "_law_first" "_law_first" s__law_first f5 d5) (b__law_first : Binds K d5 ["_law_names", "_law_entries_here", "_law_vector_here"] []) (g__law_first : mg "_law_first" = some (.ref f5)) (G__law_first : FnOk P w K mg base CX0 1 f5 d5 ["_law_names", "_law_entries_here", "_law_vector_here"] spFirst)
    (M_sign : Meth K C "sign" f6) (b_sign : Binds K d6 ["self", "signs"] []) (G_sign : FnOk P w K mg base CX0 2 f6 d6 ["self", "signs"] (spOSign C)) :
    FnG P w K mg base CX0 5 f fd ["_law_names", "_law_entries_here", "_law_order", "_law_rows"] (spVecs C) := by
  have sc := sc__law_vectors_right
  refine okG F sc (fun vs H Q E h => ?_) (fun cdv B up s H vs Q E hr gd h => ?_)
  · obtain ⟨aN, aE, pO, aR, N, E, xs, us, R, ts, rfl, _⟩ := h
    rfl
  · obtain ⟨aN, aE, pO, aR, N, E, xs, us, R, ts, rfl, hN, hE, en, ho, hR, rows, tab, lN, nd, inN, q⟩ := h
    refine ⟨_, (pss_cons (ps_for PassesOwn.never (by rfl) (pi_list (pv 3)) (pg_name (i := 4) sc.nd rfl (.inl rfl)) (pss_one (ps_for PassesOwn.never (by rfl) (pi_list (pv 3)) (pg_name (i := 5) sc.nd rfl (.inl rfl)) (pss_cons (ps_par (i := 6) (j := 7) (by rfl) sc.nd rfl rfl (by decide) rfl rfl (pa_cons (pe_call G__law_vector (hr.mono (by decide)) (by rfl) g__law_vector F__law_vector.kp b__law_vector .nil pass0 (pa_cons (pv 4) (pa_cons (pv 5) pa_nil))) (pa_cons (pe_call G__law_vector (hr.mono (by decide)) (by rfl) g__law_vector F__law_vector.kp b__law_vector .nil pass0 (pa_cons (pv 5) (pa_cons (pv 4) pa_nil))) pa_nil)) (by rfl))
      (pss_cons (ps_if (pt_cmpR op_ne (pe_callB (call_reprH (by have z := room_units hr; exact z) gd) (by rfl) T.n_repr (by decide +kernel) (pa_cons (pe_lst (pa_cons (pe_call G_turned (hr.mono (by decide)) (by rfl) g_turned F_turned.kp b_turned .nil pass0 (pa_cons (pv 6) pa_nil)) (pa_cons (pe_call G_read_vector (hr.mono (by decide)) (by rfl) g_read_vector F_read_vector.kp b_read_vector .nil pass0 (pa_cons (pe_call G_vector_text (hr.mono (by decide)) (by rfl) g_vector_text F_vector_text.kp b_vector_text .nil pass0 (pa_cons (pv 6) pa_nil)) pa_nil)) pa_nil))) pa_nil)) (pe_callB (call_reprH (by have z := room_units hr; exact z) gd) (by rfl) T.n_repr (by decide +kernel) (pa_cons (pe_lst (pa_cons (pv 7) (pa_cons (pv 6) pa_nil))) pa_nil)) (nomark _)) (pss_one (ps_ret pe_bl)) pss_nil)
      (pss_cons (ps_set (i := 8) sc.nd rfl (.inl rfl) (pe_callTy (call_dictP rfl) (by rfl) T.n_dict (by decide +kernel) (pa_cons (PSY.pe_listZip (by rfl) (by rfl) T.n_list (by rfl) T.n_zip (pa_cons (pv 0) (pa_cons (pv 6) pa_nil))) pa_nil)))
      (pss_cons (ps_if (pt_cmpR op_ne (pe_callB (call_reprH (by have z := room_units hr; exact z) gd) (by rfl) T.n_repr (by decide +kernel) (pa_cons (pe_meth (pv 2) O.cl M_sign G_sign (hr.mono (by decide)) b_sign .nil pass0 (pa_cons (pv 8) pa_nil)) pa_nil)) (pe_callB (call_reprH (by have z := room_units hr; exact z) gd) (by rfl) T.n_repr (by decide +kernel) (pa_cons (pe_call G__law_first (hr.mono (by decide)) (by rfl) g__law_first F__law_first.kp b__law_first .nil pass0 (pa_cons (pv 0) (pa_cons (pv 1) (pa_cons (pv 6) pa_nil)))) pa_nil)) (nomark _)) (pss_one (ps_ret pe_bl)) pss_nil)
      (pss_one (ps_if (pt_cmpR (op_neD hr.units) (pe_meth (pv 2) O.cl M_sign G_sign (hr.mono (by decide)) b_sign .nil pass0 (pa_cons (pe_callTy (call_dictP rfl) (by rfl) T.n_dict (by decide +kernel) (pa_cons (PSY.pe_listZip (by rfl) (by rfl) T.n_list (by rfl) T.n_zip (pa_cons (pv 0) (pa_cons (pv 7) pa_nil))) pa_nil)) pa_nil)) (pe_op op_sub pe_int (pe_meth (pv 2) O.cl M_sign G_sign (hr.mono (by decide)) b_sign .nil pass0 (pa_cons (pv 8) pa_nil))) (nomark _)) (pss_one (ps_ret pe_bl)) pss_nil)))))))))
      (pss_one (ps_ret pe_bl))), ?_⟩
    have few := tab.few
    obtain ⟨dx, tx, xsO, hoa, hob, hoc⟩ := id ho.ex
    refine ⟨_, rfl, aR, rfl, ⟨us, SqL.of hR⟩, for_list (xs := us) (fun i σ G => ∃ y4 y5 y6 y7 y8, σ = [some (.ref aN), some (.ref aE), some (.ref pO), some (.ref aR), y4, y5, y6, y7, y8] ∧ Same H G) ⟨_, _, _, _, _, rfl, Same.refl _⟩ (fun i σ G _ ⟨_, _, _, _, _, _, k⟩ => SqL.of (k _ _ hR)) ?_ ?_⟩
    · rintro i x σ G hx ⟨y4, y5, y6, y7, y8, rfl, k⟩
      obtain ⟨r1, hr1, b1, rfl, hb1⟩ := rows.at_ i x hx
      have ok1 := tab.ok r1 (List.mem_of_getElem? hr1)
      refine ⟨_, rfl, aR, rfl, ⟨us, SqL.of (k _ _ hR)⟩, for_list (xs := us) (fun j σ G => ∃ y5 y6 y7 y8, σ = [some (.ref aN), some (.ref aE), some (.ref pO), some (.ref aR), some (.ref b1), y5, y6, y7, y8] ∧ Same H G) ⟨_, _, _, _, rfl, k⟩ (fun i σ G _ ⟨_, _, _, _, _, k⟩ => SqL.of (k _ _ hR)) ?_ ?_⟩
      · rintro j x σ G0 hx2 ⟨y5, y6, y7, y8, rfl, k0⟩
        obtain ⟨r2, hr2, b2, rfl, hb2⟩ := rows.at_ j x hx2
        have ok2 := tab.ok r2 (List.mem_of_getElem? hr2)
        refine ⟨_, rfl, _, rfl, b1, b2, ts, r1, r2, rfl, k0 _ _ hb1, k0 _ _ hb2, ok1, ok2, few, fun p1 G1 s1 _ a1 => ?_⟩
        refine ⟨_, rfl, _, rfl, b2, b1, ts, r2, r1, rfl, (k0.trans s1) _ _ hb2, (k0.trans s1) _ _ hb1, ok2, ok1, few, fun p2 G2 s2 _ a2 => ?_⟩
        have k2 := k0.trans (s1.trans s2)
        have a1 := s2 _ _ a1
        have sm1 := vec_small r1 r2
        have sm2 := vec_small r2 r1
        have l1 := vec_len ok1 ok2
        have l2 := vec_len ok2 ok1
        have sw := vec_swap r1 r2
        generalize vec r1 r2 = v at *
        generalize vec r2 r1 = u at *
        subst sw
        have hv : VecAt G2 p1 v := ⟨a1, sm1, by omega⟩
        refine ⟨_, _, rfl, _, rfl, p1, v, rfl, hv, fun p3 G3 s3 a3 => ?_⟩
        have hv3 : VecAt G3 p1 v := ⟨s3 _ _ a1, sm1, by omega⟩
        refine ⟨_, rfl, p1, v, rfl, hv3, fun G4 s4 => ⟨v, rfl, sm1, by omega, fun p5 G5 s5 a5 => ⟨(by show 2 ≤ sizeLine; decide), fun L hL => ?_⟩⟩⟩
        have aL : upd G5 L (.lst [.ref p3, .ref p5]) L = some (.lst [.ref p3, .ref p5]) := upd_same
        have sL := same_new (o := .lst [.ref p3, .ref p5]) hL
        generalize upd G5 L (.lst [.ref p3, .ref p5]) = G6 at aL sL ⊢
        have s6 : Same G2 G6 := s3.trans (s4.trans (s5.trans sL))
        dsimp only [tNil]
        refine rep_twoT aL ((s4.trans (s5.trans sL)) _ _ a3) (sL _ _ a5) sm2 sm1 (by omega) (by omega) ?_
        refine ⟨_, rfl, _, rfl, (by show 2 ≤ sizeLine; decide), fun L2 hL2 => ?_⟩
        have aL2 : upd G6 L2 (.lst [.ref p2, .ref p1]) L2 = some (.lst [.ref p2, .ref p1]) := upd_same
        have sL2 := same_new (o := .lst [.ref p2, .ref p1]) hL2
        generalize upd G6 L2 (.lst [.ref p2, .ref p1]) = G7 at aL2 sL2 ⊢
        have s7 : Same G2 G7 := s6.trans sL2
        dsimp only [tNil]
        refine rep_twoT aL2 (s7 _ _ a2) (s7 _ _ a1) sm2 sm1 (by omega) (by omega) ?_
        refine ⟨rfl, _, rfl, ite2 (fun e => ?_) (fun _ => ?_)⟩
        · simp at e
        have k7 := k2.trans s7
        have lv : v.length = N.length := by omega
        refine ⟨_, rfl, _, rfl, ?_⟩
        dsimp only [tNil]
        refine zd (k7 _ _ hN) (s7 _ _ a1) lv nd (by omega) fun q8 H8 d mg8 s8 => ?_
        rw [mg8]
        have hd : upd H8 d (.dK (pairsK N v)) d = some (.dK (pairsK N v)) := upd_same
        generalize upd H8 d (.dK (pairsK N v)) = G8 at s8 hd ⊢
        have k8 := k7.trans s8
        refine ⟨_, rfl, pO, dx, _, rfl, k8 _ _ hoa, rfl, _, rfl, pO, d, E, gV N v, rfl, ho.same k8, gives_pairs hd, fun G9 s9 => ?_⟩
        have k9 := k8.trans s9
        have so := oS_sg N E sm1
        have e1 : sgE (gV N v) E = oS N E v := rfl
        rw [e1]
        dsimp only [tNil]
        refine rep_int so ?_
        refine ⟨_, rfl, _, rfl, _, rfl, aN, aE, p1, N, xs, E, v, rfl, k9 _ _ hN, k9 _ _ hE, en.mono (fun _ _ e => k9 _ _ e), (s7.trans (s8.trans s9)) _ _ a1, nd, lv, inN, fun G10 s10 => ?_⟩
        have k10 := k9.trans s10
        dsimp only [tNil]
        refine rep_int so ?_
        refine ⟨rfl, _, rfl, ite2 (fun e => ?_) (fun _ => ?_)⟩
        · simp at e
        have lu : (v.map fun i => -i).length = N.length := by rw [List.length_map]; exact lv
        refine ⟨_, rfl, pO, dx, _, rfl, k10 _ _ hoa, rfl, _, rfl, _, rfl, ?_⟩
        dsimp only [tNil]
        refine zd (k10 _ _ hN) ((s7.trans (s8.trans (s9.trans s10))) _ _ a2) lu nd (by omega) fun q11 H11 d2 mg11 s11 => ?_
        rw [mg11]
        have hd2 : upd H11 d2 (.dK (pairsK N (v.map fun i => -i))) d2 = some (.dK (pairsK N (v.map fun i => -i))) := upd_same
        generalize upd H11 d2 (.dK (pairsK N (v.map fun i => -i))) = G11 at s11 hd2 ⊢
        have k11 := k10.trans s11
        refine ⟨pO, d2, E, gV N (v.map fun i => -i), rfl, ho.same k11, gives_pairs hd2, fun G12 s12 => ?_⟩
        have k12 := k11.trans s12
        refine ⟨_, rfl, pO, dx, _, rfl, k12 _ _ hoa, rfl, _, rfl, pO, d, E, gV N v, rfl, ho.same k12, gives_pairs ((s9.trans (s10.trans (s11.trans s12))) _ _ hd), fun G13 s13 => ?_⟩
        have e2 : sgE (gV N (v.map fun i => -i)) E = -(oS N E v) := oS_neg N E v
        rw [e1, e2]
        refine ⟨_, _, rfl, rfl, .int _, .int _, .int _, .int _, rfl, rfl, _, rfl, ite2 (fun e => ?_) (fun _ => ?_)⟩
        · have e3 : PyData.eqv (.int (-(oS N E v))) (.int (0 - oS N E v)) = true := by
            rw [Int.zero_sub]
            simp [PyData.eqv]
          have e4 : (!PyData.eqv (.int (-(oS N E v))) (.int (0 - oS N E v))) = true := e
          rw [e3] at e4
          cases e4
        · exact ⟨_, _, _, _, rfl, k12.trans s13⟩
      · rintro σ G0 ⟨y5, y6, y7, y8, rfl, k0⟩
        exact ⟨_, _, _, _, _, rfl, k0⟩
    · rintro σ G ⟨y4, y5, y6, y7, y8, rfl, k⟩
      exact q G k
end
end K19

set_option Elab.async false
set_option linter.all false
set_option maxRecDepth 100000
set_option maxHeartbeats 8000000
namespace K19
open PySem PySem.Spec L2 PSG PSS
open PyProof.Rows (IntsAre AllBare)
structure Tri (x y z : Int) : Prop where
  a : x = 0 → y = z
  b : y = 0 → x = z
  m : x = -1 → y = -1 → z = -1
  p : x = 1 → y = 1 → z = 1
theorem sgE_tri {g h k : Str → Int} : ∀ {E : List Ent}, (∀ e ∈ E, Tri (g e.1) (h e.1) (k e.1) ∧ Sg (g e.1) ∧ Sg (h e.1) ∧ Sg (k e.1)) → Tri (sgE g E) (sgE h E) (sgE k E)
  | [], _ => ⟨fun _ => rfl, fun _ => rfl, fun (z : (0 : Int) = -1) _ => absurd z (by decide), fun (z : (0 : Int) = 1) _ => absurd z (by decide)⟩
  | e :: r, hh => by
    obtain ⟨t, s1, s2, s3⟩ := hh e List.mem_cons_self
    have ih := sgE_tri fun x m => hh x (List.mem_cons_of_mem _ m)
    have c : ∀ f : Str → Int, sgE f (e :: r) = if f e.1 = 0 then sgE f r else if e.2 = true then -(f e.1) else f e.1 := fun f => rfl
    have nz : ∀ f : Str → Int, ¬ f e.1 = 0 → ¬ (if e.2 = true then -(f e.1) else f e.1) = 0 := fun f n => by split <;> omega
    rw [c g, c h, c k]
    by_cases z1 : g e.1 = 0
    · rw [if_pos z1, ← t.a z1]
      by_cases z2 : h e.1 = 0
      · rw [if_pos z2, if_pos z2]
        exact ih
      · rw [if_neg z2, if_neg z2]
        exact ⟨fun _ => rfl, fun z => absurd z (nz h z2), fun _ y => y, fun _ y => y⟩
    · rw [if_neg z1]
      by_cases z2 : h e.1 = 0
      · rw [if_pos z2, ← t.b z2, if_neg z1]
        exact ⟨fun z => absurd z (nz g z1), fun _ => rfl, fun y _ => y, fun y _ => y⟩
      · rw [if_neg z2]
        by_cases eq : g e.1 = h e.1
        · have kk : k e.1 = g e.1 := by
            rcases s1 with w | w | w
            · rw [w]
              exact t.m w (eq ▸ w)
            · exact absurd w z1
            · rw [w]
              exact t.p w (eq ▸ w)
          rw [kk, ← eq, if_neg z1]
          exact ⟨fun _ => rfl, fun _ => rfl, fun y _ => y, fun y _ => y⟩
        · have op : g e.1 = -(h e.1) := by
            unfold Sg at s1 s2
            clear t ih c nz hh
            omega
          rw [op]
          refine ⟨fun z => absurd z ?_, fun z => absurd z (nz h z2), fun y z => ?_, fun y z => ?_⟩
          · clear t ih c nz hh
            split <;> omega
          · clear t ih c nz hh
            exfalso
            by_cases b : e.2 = true
            · rw [if_pos b] at y z
              omega
            · rw [if_neg b] at y z
              omega
          · clear t ih c nz hh
            exfalso
            by_cases b : e.2 = true
            · rw [if_pos b] at y z
              omega
            · rw [if_neg b] at y z
              omega

theorem fits_tri {x y z : Int} (t : Tri x y z) (sx : Sg x) (sy : Sg y) : fits x y z = true := by
  unfold fits
  by_cases h0 : x = 0
  · rw [if_pos h0, t.a h0]
    exact decide_eq_true rfl
  · rw [if_neg h0]
    by_cases h1 : y = 0 ∨ y = x
    · rw [if_pos h1]
      refine decide_eq_true ?_
      rcases h1 with h1 | h1
      · exact (t.b h1).symm
      · rcases sx with w | w | w
        · rw [t.m w (h1.trans w), w]
        · exact absurd w h0
        · rw [t.p w (h1.trans w), w]
    · rw [if_neg h1]
theorem sgK_m {a b : Key} : sgK a b = -1 ↔ ltK a b = true := by
  unfold sgK
  by_cases l1 : ltK a b = true
  · simp [l1]
  · by_cases l2 : ltK b a = true <;> simp [l1, l2]
theorem sgK_p {a b : Key} : sgK a b = 1 ↔ ltK b a = true := by
  unfold sgK
  by_cases l1 : ltK a b = true
  · simp [l1, ltK_asymm l1]
  · by_cases l2 : ltK b a = true <;> simp [l1, l2]
theorem kok_two {t : Bool} {a b : Key} (ha : KOk t a) (hb : KOk t b) : (isIK a ∧ isIK b) ∨ (isSK a ∧ isSK b) := by
  cases t with
  | true =>
    obtain ⟨x, e, _⟩ := ha
    obtain ⟨y, f, _⟩ := hb
    exact .inr ⟨⟨x, e⟩, ⟨y, f⟩⟩
  | false => exact .inl ⟨ha, hb⟩
theorem sgK_z {t : Bool} {a b : Key} (ha : KOk t a) (hb : KOk t b) (h : sgK a b = 0) : a = b := by
  refine ltK_total (kok_two ha hb) ?_ ?_
  · refine Bool.eq_false_iff.mpr fun z => ?_
    rw [sgK_m.mpr z] at h
    cases h
  · refine Bool.eq_false_iff.mpr fun z => ?_
    rw [sgK_p.mpr z] at h
    cases h
theorem tri_K {t : Bool} {a b c : Key} (ha : KOk t a) (hb : KOk t b) (hc : KOk t c) : Tri (sgK a b) (sgK b c) (sgK a c) := ⟨fun h => by rw [sgK_z ha hb h], fun h => by rw [sgK_z hb hc h],
  fun h k => sgK_m.mpr (ltK_trans (sgK_m.mp h) (sgK_m.mp k)), fun h k => sgK_p.mpr (ltK_trans (sgK_p.mp k) (sgK_p.mp h))⟩
theorem vec_at {ts : List Bool} {r q : List Key} (hr : RowOk ts r) (hq : RowOk ts q) {j : Nat} (l : j < ts.length) : ∃ t a b, ts[j]? = some t ∧ r[j]? = some a ∧ q[j]? = some b ∧ KOk t a ∧ KOk t b ∧ (vec r q)[j]? = some (sgK a b) := by
  obtain ⟨t, a, h1, h2, _, h4⟩ := row_get hr l
  obtain ⟨t2, b, k1, k2, _, k4⟩ := row_get hq l
  rw [h1] at k1
  cases k1
  exact ⟨t, a, b, h1, h2, k2, h4, k4, by
    unfold vec
    rw [List.getElem?_zipWith, h2, k2]⟩
theorem gV_at {N : List Str} {is : List Int} (nd : N.Nodup) {x : Str} {j : Nat} {i : Int} (h : N[j]? = some x) (k : is[j]? = some i) : gV N is x = i := by
  unfold gV
  rw [look_at nd h k]
  rfl
theorem gV_tri {ts : List Bool} {N : List Str} {r1 r2 r3 : List Key} (h1 : RowOk ts r1) (h2 : RowOk ts r2) (h3 : RowOk ts r3) (nd : N.Nodup) (lN : N.length = ts.length) {x : Str} (hx : x ∈ N) : Tri (gV N (vec r1 r2) x) (gV N (vec r2 r3) x) (gV N (vec r1 r3) x) := by
  obtain ⟨j, hj⟩ := List.mem_iff_getElem?.mp hx
  have jl : j < ts.length := by
    have := (List.getElem?_eq_some_iff.mp hj).1
    omega
  obtain ⟨t, a, b, e0, ea, eb, ka, kb, v1⟩ := vec_at h1 h2 jl
  obtain ⟨t', b', c, e0', eb', ec, kb', kc, v2⟩ := vec_at h2 h3 jl
  obtain ⟨t'', a', c', e0'', ea', ec', _, _, v3⟩ := vec_at h1 h3 jl
  rw [e0] at e0'
  cases e0'
  rw [eb] at eb'
  cases eb'
  rw [ea] at ea'
  cases ea'
  rw [ec] at ec'
  cases ec'
  rw [gV_at nd hj v1, gV_at nd hj v2, gV_at nd hj v3]
  exact tri_K ka kb kc
theorem oS_tri {ts : List Bool} {N : List Str} {E : List Ent} {r1 r2 r3 : List Key} (h1 : RowOk ts r1) (h2 : RowOk ts r2) (h3 : RowOk ts r3) (nd : N.Nodup) (lN : N.length = ts.length) (inN : ∀ en ∈ E, en.1 ∈ N) : Tri (oS N E (vec r1 r2)) (oS N E (vec r2 r3)) (oS N E (vec r1 r3)) :=
  sgE_tri fun e he => ⟨gV_tri h1 h2 h3 nd lN (inN e he), gV_sg (vec_small _ _) _, gV_sg (vec_small _ _) _, gV_sg (vec_small _ _) _⟩
/-- the three signs of three ranks -/
def trip (c : List Int) : List Int := [sgn (.int (c.getD 0 0)) (.int (c.getD 1 0)), sgn (.int (c.getD 1 0)) (.int (c.getD 2 0)), sgn (.int (c.getD 0 0)) (.int (c.getD 2 0))]
def trips : List (List Int) := (weaks 3 none).map trip
theorem trips_all : ((([-1, 0, 1] : List Int).all fun a => ([-1, 0, 1] : List Int).all fun b => ([-1, 0, 1] : List Int).all fun c => fits a b c == decide ([a, b, c] ∈ trips))) = true := by decide +kernel
theorem trips_fit {a b c : Int} (ha : Sg a) (hb : Sg b) (hc : Sg c) : decide ([a, b, c] ∈ trips) = fits a b c := by
  have mem : ∀ {x : Int}, Sg x → x ∈ ([-1, 0, 1] : List Int) := fun {x} h => by
    unfold Sg at h
    simp only [List.mem_cons, List.not_mem_nil, or_false]
    exact h
  have z := List.all_eq_true.mp (List.all_eq_true.mp (List.all_eq_true.mp trips_all a (mem ha)) b (mem hb)) c (mem hc)
  exact (eq_of_beq z).symm
/-- a list of lists of numbers -/
def lD (c : List Int) : PyData := .list (c.map PyData.int)
theorem lDs_lay : ∀ cs : List (List Int), PyData.canLayAll0 (cs.map lD) = true
  | [] => by simp [PyData.canLayAll0]
  | c :: r => by
    have h : PyData.canLay0 (.list (c.map PyData.int)) = true := by
      simp only [PyData.canLay0]
      exact ints_lay c
    rw [List.map_cons, PyData.canLayAll0, lDs_lay r, lD, h]
    rfl
theorem lDs_depth : ∀ cs : List (List Int), PyData.depthAll (cs.map lD) ≤ 1
  | [] => by simp [PyData.depthAll]
  | c :: r => by
    have h1 := lDs_depth r
    have h2 : PyData.depth (.list (c.map PyData.int)) = 1 := by
      simp only [PyData.depth]
      rw [ints_depth c]
    rw [List.map_cons, PyData.depthAll, lD, h2]
    omega
theorem lDs_shaped (cs : List (List Int)) : SeqAt.shaped (.list (cs.map lD)) = true := by
  have h1 := lDs_depth cs
  have h2 : PyData.depth (.list (cs.map lD)) ≤ 64 := by
    simp only [PyData.depth]
    omega
  show (PyData.canLay0 (.list (cs.map lD)) && decide (PyData.depth (.list (cs.map lD)) ≤ 64)) = true
  rw [Bool.and_eq_true]
  exact ⟨by simp only [PyData.canLay0]; exact lDs_lay cs, decide_eq_true h2⟩
theorem lDs_any (cs : List (List Int)) (c : List Int) : (cs.map lD).any (fun z => PyData.eqv z (lD c)) = decide (c ∈ cs) := by
  rw [List.any_map, Bool.eq_iff_iff, List.any_eq_true, decide_eq_true_eq]
  constructor
  · rintro ⟨b, hb, e⟩
    have e2 : PyData.eqv (.list (b.map PyData.int)) (.list (c.map PyData.int)) = true := e
    rw [eqv_ints] at e2
    rw [← of_decide_eq_true e2]
    exact hb
  · intro h
    refine ⟨c, h, ?_⟩
    show PyData.eqv (.list (c.map PyData.int)) (.list (c.map PyData.int)) = true
    rw [eqv_ints]
    exact decide_eq_true rfl
/-- lists of numbers stand there -/
structure LstsAt (H : Hp) (vs : List V) (cs : List (List Int)) : Prop where
  len : vs.length = cs.length
  at_ : ∀ (i : Nat) v c, vs[i]? = some v → cs[i]? = some c → ∃ b, v = .ref b ∧ H b = some (.lst (c.map V.int))
theorem lsts_dp {K : PySem.W.Frag} {H : Hp} : ∀ {vs : List V} {cs : List (List Int)}, LstsAt H vs cs → DpAll K H vs (cs.map lD)
  | [], [], _ => .nil
  | [], _ :: _, h => by cases h.len
  | _ :: _, [], h => by cases h.len
  | v :: vs, c :: cs, h => by
    obtain ⟨b, e, hb⟩ := h.at_ 0 v c rfl rfl
    subst e
    exact .cons (.lst (SqL.of hb) (ints_dp c)) (lsts_dp ⟨Nat.succ.inj h.len, fun i v c h1 h2 => h.at_ (i + 1) v c (by simpa using h1) (by simpa using h2)⟩)
theorem rep_bool {H : Hp} {b : Bool} {Q : VK} (q : Q (.str (PyData.bool b).shown) H) : rRep [.bl b] H Q := by
  have f : Fine (.bool b) := by cases b <;> exact fine_dec (by decide +kernel)
  exact ⟨.bl b, .bool b, false, rfl, .bl _, fun z => by simp [PyData.hasDict] at z, f.sh, by have := f.ln; rw [sizeLine_eq]; omega, by have := f.dp; omega, q⟩
end K19

set_option Elab.async false
set_option linter.all false
set_option maxRecDepth 100000
set_option maxHeartbeats 8000000
namespace K19
open PySem PySem.Spec L2 PSG PSS
open PyProof.Rows (IntsAre AllBare)
abbrev s__law_fit_right : Stmt := topS 59
theorem sc__law_fit_right : FnScope ["_law_pot_here", "_law_names", "_law_order", "_law_rows", "_law_vectors", "_law_one", "_law_other", "_law_both", "_law_by_order", "_law_drawn", "_law_some", "_law_vector_here", "_law_turn", "_law_ranks"] ["_law_pot_here", "_law_names", "_law_order", "_law_rows"] (defScope s__law_fit_right) := ⟨rfl, rfl, rfl, by decide +kernel, rfl, by decide +kernel, by decide +kernel⟩

def rDP (K : PySem.W.Frag) : List V → Hp → VK → Prop := fun xs H Q => ∃ (a : Addr) (ps : List Addr) (kvs : List (Key × V)), xs = [.ref a] ∧ SqL K H a (ps.map V.ref) ∧ Paired (fun p kv => SqT K H p [kV kv.1, kv.2]) ps kvs ∧ ∀ p, H p = none → Q (.ref p) (upd H p (.dK (mergeK [] kvs)))
section
variable {P : Program} {w : World} {K : PySem.W.Frag} {mg : Str → Option Value} {base : Heap}
def spFitR (C : Addr) : Sp := fun vs H Q _ => ∃ (r aN pO aR : Addr) (N : List Str) (E : List Ent) (us : List V) (R : List (List Key)) (ts : List Bool), vs = [.ref r, .ref aN, .ref pO, .ref aR] ∧ Pt H r ∧ H aN = some (.lst (N.map V.str)) ∧ OrdAt C H pO E ∧ H aR = some (.lst us) ∧ RowsAt H us R ∧ Tab ts R ∧ 3 ≤ R.length ∧
  N.length = ts.length ∧ N.Nodup ∧ (∀ en ∈ E, en.1 ∈ N) ∧ ∀ H', Pt H' r → But r H H' → Q (.bl true) H'
theorem ok_fitR {C f f1 f2 f3 f4 f5 f6 : Addr} {fd d1 d2 d3 d4 d5 d6 : FuncData} {dvs : List V} {kws : List (Str × V)} {ds1 : List Value} (F : Fun K "_law_fit_right" "_law_fit_right" s__law_fit_right f fd) (T : Blt mg) (O : OrdC K mg C)
    (F__law_vector : Fun K "_law_vector" "_law_vector" s__law_vector f1 d1) (b__law_vector : Binds K d1 ["_law_one", "_law_other"] []) (g__law_vector : mg "_law_vector" = some (.ref f1)) (G__law_vector : FnOk P w K mg base CX0 4 f1 d1 ["_law_one", "_law_other"] spLVec)
    (F_signs_fit : Fun K "signs_fit" "signs_fit" s_signs_fit f2 d2) (b_signs_fit : Binds K d2 ["one", "other", "both"] []) (g_signs_fit : mg "signs_fit" = some (.ref f2)) (G_signs_fit : FnOk P w K mg base CX0 1 f2 d2 ["one", "other", "both"] spFit)
    (F__law_draw : Fun K "_law_draw" "_law_draw" s__law_draw f3 d3) (b__law_draw : Binds K d3 ["_law_pot_here", "_law_many"] []) (g__law_draw : mg "_law_draw" = some (.ref f3)) (G__law_draw : FnOk P w K mg base CX0 1 f3 d3 ["_law_pot_here", "_law_many"] spDraw)
    (F_pair_sign : Fun K "pair_sign" "pair_sign" s_pair_sign f4 d4) (b_pair_sign : Binds K d4 ["ranks", "first", "second"] []) (g_pair_sign : mg "pair_sign" = some (.ref f4)) (G_pair_sign : FnOk P w K mg base CX0 2 f4 d4 ["ranks", "first", "second"] spPairSign)
    (F_weak_orders : FunD K "weak_orders" "weak_orders" (defArgs s_weak_orders) (defBody s_weak_orders) (defScope s_weak_orders) dvs kws f5 d5) (b1_weak_orders : Binds K d5 ["count", "most"] ds1) (v1_weak_orders : Vals [V.non] ds1) (g_weak_orders : mg "weak_orders" = some (.ref f5)) (G_weak_orders : GFn P w K mg base 4 f5 d5 ["count", "most"] spWO)
    (M_sign : Meth K C "sign" f6) (b_sign : Binds K d6 ["self", "signs"] []) (G_sign : FnOk P w K mg base CX0 2 f6 d6 ["self", "signs"] (spOSign C)) :
    FnG P w K mg base CX0 8 f fd ["_law_pot_here", "_law_names", "_law_order", "_law_rows"] (spFitR C) := by
  have sc := sc__law_fit_right
  refine okG F sc (fun vs H Q E h => ?_) (fun cdv B up s H vs Q E hr gd h => ?_)
  · obtain ⟨r, aN, pO, aR, N, E, us, R, ts, rfl, _⟩ := h
    rfl
  · obtain ⟨r, aN, pO, aR, N, E, us, R, ts, rfl, pt, hN, ho, hR, rows, tab, l3, lN, nd, inN, q⟩ := h
    refine ⟨_, (pss_cons (ps_set (i := 4) sc.nd rfl (.inl rfl) (pe_lst (pa_cons (pe_call G__law_vector (hr.mono (by decide)) (by rfl) g__law_vector F__law_vector.kp b__law_vector .nil pass0 (pa_cons (pe_ix ix_list (pv 3) pe_int (fun _ _ => rfl)) (pa_cons (pe_ix ix_list (pv 3) pe_int (fun _ _ => rfl)) pa_nil))) (pa_cons (pe_call G__law_vector (hr.mono (by decide)) (by rfl) g__law_vector F__law_vector.kp b__law_vector .nil pass0 (pa_cons (pe_ix ix_list (pv 3) pe_int (fun _ _ => rfl)) (pa_cons (pe_ix ix_list (pv 3) pe_int (fun _ _ => rfl)) pa_nil))) (pa_cons (pe_call G__law_vector (hr.mono (by decide)) (by rfl) g__law_vector F__law_vector.kp b__law_vector .nil pass0 (pa_cons (pe_ix ix_list (pv 3) pe_int (fun _ _ => rfl)) (pa_cons (pe_ix ix_list (pv 3) pe_int (fun _ _ => rfl)) pa_nil))) pa_nil)))))
      (pss_cons (ps_for PassesOwn.never (by rfl) (PSY.pi_zip3 (by rfl) T.n_zip (pa_cons (pe_ix ix_list (pv 4) pe_int (fun _ _ => rfl)) (pa_cons (pe_ix ix_list (pv 4) pe_int (fun _ _ => rfl)) (pa_cons (pe_ix ix_list (pv 4) pe_int (fun _ _ => rfl)) pa_nil)))) (pg_tup (by rfl) (pgs_cons (pg_name (i := 5) sc.nd rfl (.inl rfl)) (pgs_cons (pg_name (i := 6) sc.nd rfl (.inl rfl)) (pgs_cons (pg_name (i := 7) sc.nd rfl (.inl rfl)) pgs_nil)))) (pss_one (ps_if (pt_cmpR PSY.op_notB (pe_call G_signs_fit (hr.mono (by decide)) (by rfl) g_signs_fit F_signs_fit.kp b_signs_fit .nil pass0 (pa_cons (pv 5) (pa_cons (pv 6) (pa_cons (pv 7) pa_nil)))) pe_bl (nomark _)) (pss_one (ps_ret pe_bl)) pss_nil)))
      (pss_cons (ps_setLc (i := 8) (own := [("_law_vector_here", 11)]) (g := gName 11) (tt := tYes) (by rfl) sc.nd rfl rfl (sw_true rfl rfl rfl (by decide +kernel)) (pi_list (pv 4)) (blkOk_by (own := [("_law_vector_here", 11)]) (N := ["_law_pot_here", "_law_names", "_law_order", "_law_rows", "_law_vectors", "_law_one", "_law_other", "_law_both", "_law_by_order", "_law_drawn", "_law_some", "_law_vector_here", "_law_turn", "_law_ranks"]) (sc := defScope s__law_fit_right) (by decide +kernel)) (fun _ _ _ _ _ => pg_name (i := 11) sc.nd rfl (Or.inl rfl)) (fun _ _ _ _ _ => pts_nil) (fun _ _ _ _ _ => (pe_meth (pv 2) O.cl M_sign G_sign (hr.mono (by decide)) b_sign .nil pass0 (pa_cons (pe_callTy (show CallR _ (.type "dict") (rDP K) from call_dictP rfl) (by rfl) T.n_dict (by decide +kernel) (pa_cons (show PE _ _ (PSY.tListZip K _) from (PSY.pe_listZip (by rfl) (by rfl) T.n_list (by rfl) T.n_zip (pa_cons (pv 1) (pa_cons (pv 11) pa_nil)))) pa_nil)) pa_nil))))
      (pss_cons (ps_if (pt_cmpR PSY.op_notB (pe_call G_signs_fit (hr.mono (by decide)) (by rfl) g_signs_fit F_signs_fit.kp b_signs_fit .nil pass0 (pa_cons (pe_ix ix_list (pv 8) pe_int (fun _ _ => rfl)) (pa_cons (pe_ix ix_list (pv 8) pe_int (fun _ _ => rfl)) (pa_cons (pe_ix ix_list (pv 8) pe_int (fun _ _ => rfl)) pa_nil)))) pe_bl (nomark _)) (pss_one (ps_ret pe_bl)) pss_nil)
      (pss_cons (ps_setLc (i := 9) (own := [("_law_turn", 12)]) (g := gName 12) (tt := tYes) (by rfl) sc.nd rfl rfl (sw_true rfl rfl rfl (by decide +kernel)) (pi_range1 (by rfl) T.n_range (pa_cons pe_int pa_nil)) (blkOk_by (own := [("_law_turn", 12)]) (N := ["_law_pot_here", "_law_names", "_law_order", "_law_rows", "_law_vectors", "_law_one", "_law_other", "_law_both", "_law_by_order", "_law_drawn", "_law_some", "_law_vector_here", "_law_turn", "_law_ranks"]) (sc := defScope s__law_fit_right) (by decide +kernel)) (fun _ _ _ _ _ => pg_name (i := 12) sc.nd rfl (Or.inl rfl)) (fun _ _ _ _ _ => pts_nil) (fun _ _ _ _ _ => (pe_op op_sub (pe_call G__law_draw (hr.mono (by decide)) (by rfl) g__law_draw F__law_draw.kp b__law_draw .nil pass0 (pa_cons (pv 0) (pa_cons pe_int pa_nil))) pe_int)))
      (pss_cons (ps_setLc (i := 10) (own := [("_law_ranks", 13)]) (g := gName 13) (tt := tYes) (by rfl) sc.nd rfl rfl (sw_true rfl rfl rfl (by decide +kernel)) (pi_list (pe_listG (pgen_call G_weak_orders (hr.mono (by decide)) (by rfl) g_weak_orders F_weak_orders.kp b1_weak_orders v1_weak_orders (pa_cons pe_int pa_nil)) PSY.passG0 PSY.nostop0 (hr.mono (by decide)) (by rfl) T.n_list (by decide +kernel))) (blkOk_by (own := [("_law_ranks", 13)]) (N := ["_law_pot_here", "_law_names", "_law_order", "_law_rows", "_law_vectors", "_law_one", "_law_other", "_law_both", "_law_by_order", "_law_drawn", "_law_some", "_law_vector_here", "_law_turn", "_law_ranks"]) (sc := defScope s__law_fit_right) (by decide +kernel)) (fun _ _ _ _ _ => pg_name (i := 13) sc.nd rfl (Or.inl rfl)) (fun _ _ _ _ _ => pts_nil) (fun _ _ _ _ _ => (pe_lst (pa_cons (pe_call G_pair_sign (hr.mono (by decide)) (by rfl) g_pair_sign F_pair_sign.kp b_pair_sign .nil pass0 (pa_cons (pv 13) (pa_cons pe_int (pa_cons pe_int pa_nil)))) (pa_cons (pe_call G_pair_sign (hr.mono (by decide)) (by rfl) g_pair_sign F_pair_sign.kp b_pair_sign .nil pass0 (pa_cons (pv 13) (pa_cons pe_int (pa_cons pe_int pa_nil)))) (pa_cons (pe_call G_pair_sign (hr.mono (by decide)) (by rfl) g_pair_sign F_pair_sign.kp b_pair_sign .nil pass0 (pa_cons (pv 13) (pa_cons pe_int (pa_cons pe_int pa_nil)))) pa_nil))))))
      (pss_one (ps_ret (pe_cmpR op_eq (pe_callB (call_reprH (by have z := room_units hr; exact z) gd) (by rfl) T.n_repr (by decide +kernel) (pa_cons (pe_call G_signs_fit (hr.mono (by decide)) (by rfl) g_signs_fit F_signs_fit.kp b_signs_fit .nil pass0 (pa_cons (pe_ix ix_list (pv 9) pe_int (fun _ _ => rfl)) (pa_cons (pe_ix ix_list (pv 9) pe_int (fun _ _ => rfl)) (pa_cons (pe_ix ix_list (pv 9) pe_int (fun _ _ => rfl)) pa_nil)))) pa_nil)) (pe_callB (call_reprH (by have z := room_units hr; exact z) gd) (by rfl) T.n_repr (by decide +kernel) (pa_cons (pe_cmpR (op_inD (PSY.hu65 hr)) (pv 9) (pv 10) (by first | exact nomark _ | rfl)) pa_nil)) (nomark _)))))))))), ?_⟩
    have few := tab.few
    have lu := rows.len
    obtain ⟨dx, tx, xsO, hoa, hob, hoc⟩ := id ho.ex
    have get : ∀ i, i < 3 → ∃ b row, us[i]? = some (.ref b) ∧ H b = some (.lst (row.map kV)) ∧ RowOk ts row := fun i hi => by
      have e : us[i]? = some us[i] := List.getElem?_eq_getElem (by omega)
      obtain ⟨row, h1, b, h2, h3⟩ := rows.at_ i _ e
      exact ⟨b, row, by rw [e, h2], h3, tab.ok row (List.mem_of_getElem? h1)⟩
    obtain ⟨b0, r0, u0, h0, ok0⟩ := get 0 (by omega)
    obtain ⟨b1, r1, u1, h1, ok1⟩ := get 1 (by omega)
    obtain ⟨b2, r2, u2, h2, ok2⟩ := get 2 (by omega)
    refine ⟨_, rfl, aR, _, 0, _, rfl, rfl, SqL.of hR, atI_nat (j := 0) u0, _, rfl, aR, _, 1, _, rfl, rfl, SqL.of hR, atI_nat (j := 1) u1, b0, b1, ts, r0, r1, rfl, h0, h1, ok0, ok1, few, fun p1 G1 s1 _ a1 => ?_⟩
    refine ⟨_, rfl, aR, _, 1, _, rfl, rfl, SqL.of (s1 _ _ hR), atI_nat (j := 1) u1, _, rfl, aR, _, 2, _, rfl, rfl, SqL.of (s1 _ _ hR), atI_nat (j := 2) u2, b1, b2, ts, r1, r2, rfl, s1 _ _ h1, s1 _ _ h2, ok1, ok2, few, fun p2 G2 s2 _ a2 => ?_⟩
    have k2 := s1.trans s2
    refine ⟨_, rfl, aR, _, 0, _, rfl, rfl, SqL.of (k2 _ _ hR), atI_nat (j := 0) u0, _, rfl, aR, _, 2, _, rfl, rfl, SqL.of (k2 _ _ hR), atI_nat (j := 2) u2, b0, b2, ts, r0, r2, rfl, k2 _ _ h0, k2 _ _ h2, ok0, ok2, few, fun p3 G3 s3 _ a3 => ?_⟩
    have k3 := k2.trans s3
    refine ⟨(by show 3 ≤ sizeLine; decide), fun L hL => ?_⟩
    have s4 := same_new (o := .lst [.ref p1, .ref p2, .ref p3]) hL
    have aL : upd G3 L (.lst [.ref p1, .ref p2, .ref p3]) L = some (.lst [.ref p1, .ref p2, .ref p3]) := upd_same
    generalize upd G3 L (.lst [.ref p1, .ref p2, .ref p3]) = G4 at s4 aL ⊢
    have k4 := k3.trans s4
    have a1 := (s2.trans (s3.trans s4)) _ _ a1
    have a2 := (s3.trans s4) _ _ a2
    have a3 := s4 _ _ a3
    have l01 := vec_len ok0 ok1
    have l12 := vec_len ok1 ok2
    have l02 := vec_len ok0 ok2
    refine ⟨_, rfl, L, _, 0, _, rfl, rfl, SqL.of aL, atI_nat (j := 0) rfl, _, rfl, L, _, 1, _, rfl, rfl, SqL.of aL, atI_nat (j := 1) rfl, _, rfl, L, _, 2, _, rfl, rfl, SqL.of aL, atI_nat (j := 2) rfl, p1, p2, p3, _, _, _, rfl, SqT.of a1, SqT.of a2, SqT.of a3, by rw [List.length_map, List.length_map]; omega, by rw [List.length_map, List.length_map]; omega, ?_⟩
    refine PSY.for_zip3 (by rw [List.length_map, List.length_map]; omega) (by rw [List.length_map, List.length_map]; omega) (fun i σ G => ∃ y5 y6 y7, σ = [some (.ref r), some (.ref aN), some (.ref pO), some (.ref aR), some (.ref L), y5, y6, y7, none, none, none, none, none, none] ∧ Same G4 G)
      ⟨_, _, _, rfl, Same.refl _⟩ (fun i σ G ⟨_, _, _, _, k⟩ => ⟨SqT.of (k _ _ a1), SqT.of (k _ _ a2), SqT.of (k _ _ a3)⟩) ?_ ?_
    · rintro i x y u TT σ G hx hy hu ⟨y5, y6, y7, rfl, k⟩ hTT
      have sT := same_new (o := .tup [x, y, u]) hTT
      have aT : upd G TT (.tup [x, y, u]) TT = some (.tup [x, y, u]) := upd_same
      generalize upd G TT (.tup [x, y, u]) = G5 at sT aT ⊢
      have il : i < ts.length := by
        have z := (List.getElem?_eq_some_iff.mp hx).1
        rw [List.length_map] at z
        omega
      obtain ⟨t, a, b, e0, ea, eb, ka, kb, v1⟩ := vec_at ok0 ok1 il
      obtain ⟨t', b', c, e0', eb', ec, kb', kc, v2⟩ := vec_at ok1 ok2 il
      obtain ⟨t'', a', c', e0'', ea', ec', _, _, v3⟩ := vec_at ok0 ok2 il
      rw [e0] at e0'
      cases e0'
      rw [eb] at eb'
      cases eb'
      rw [ea] at ea'
      cases ea'
      rw [ec] at ec'
      cases ec'
      rw [List.getElem?_map, v1] at hx
      rw [List.getElem?_map, v2] at hy
      rw [List.getElem?_map, v3] at hu
      cases hx
      cases hy
      cases hu
      refine ⟨TT, _, rfl, SqT.of aT, rfl, _, _, rfl, _, _, rfl, _, _, rfl, rfl, ?_⟩
      refine ⟨_, rfl, _, rfl, _, rfl, sgK a b, sgK b c, sgK a c, rfl, fun G6 s6 => ?_⟩
      rw [fits_tri (tri_K ka kb kc) (sgK_is a b) (sgK_is b c)]
      refine ⟨true, true, rfl, rfl, _, rfl, iteF ?_⟩
      exact ⟨_, _, _, rfl, k.trans (sT.trans s6)⟩
    rintro σ G5 ⟨y5, y6, y7, rfl, k5⟩
    have k05 := k4.trans k5
    have aL5 := k5 _ _ aL
    have each : ∀ (i : Nat) x, ([.ref p1, .ref p2, .ref p3] : List V)[i]? = some x → ∃ p v, x = .ref p ∧ G5 p = some (.tup (v.map V.int)) ∧ v.length = N.length ∧ [oS N E (vec r0 r1), oS N E (vec r1 r2), oS N E (vec r0 r2)][i]? = some (oS N E v) := fun i x hx => by
      have lt := (List.getElem?_eq_some_iff.mp hx).1
      have i3 : i = 0 ∨ i = 1 ∨ i = 2 := by
        simp only [List.length_cons, List.length_nil] at lt
        omega
      rcases i3 with rfl | rfl | rfl
      · cases hx
        exact ⟨p1, _, rfl, k5 _ _ a1, by omega, rfl⟩
      · cases hx
        exact ⟨p2, _, rfl, k5 _ _ a2, by omega, rfl⟩
      · cases hx
        exact ⟨p3, _, rfl, k5 _ _ a3, by omega, rfl⟩
    have tri := oS_tri (E := E) ok0 ok1 ok2 nd lN inN
    have so1 := oS_sg N E (vec_small r0 r1)
    have so2 := oS_sg N E (vec_small r1 r2)
    have so3 := oS_sg N E (vec_small r0 r2)
    generalize ho1 : oS N E (vec r0 r1) = o1 at each tri so1
    generalize ho2 : oS N E (vec r1 r2) = o2 at each tri so2
    generalize ho3 : oS N E (vec r0 r2) = o3 at each tri so3
    refine ⟨_, rfl, L, rfl, ⟨_, SqL.of aL5⟩, fun D hD => ?_⟩
    refine lc_list (xs := [.ref p1, .ref p2, .ref p3]) (fun i G => Same G5 G ∧ G D = some (.lst (([o1, o2, o3].take i).map V.int))) ⟨same_new hD, upd_same⟩ (fun i G _ z => SqL.of (z.1 _ _ aL5)) ?_ ?_
    · rintro i x G hx ⟨k, aD⟩
      obtain ⟨p, v, rfl, hp, lv, ho4⟩ := each i x hx
      have kG := k05.trans k
      refine ⟨rfl, ?_⟩
      refine ⟨_, rfl, pO, dx, _, rfl, kG _ _ hoa, rfl, _, rfl, _, rfl, ?_⟩
      dsimp only [tNil]
      refine zd (kG _ _ hN) (k _ _ hp) lv nd (by omega) fun q8 H8 d mg8 s8 => ?_
      rw [mg8]
      have hd : upd H8 d (.dK (pairsK N v)) d = some (.dK (pairsK N v)) := upd_same
      generalize upd H8 d (.dK (pairsK N v)) = G8 at s8 hd ⊢
      refine ⟨pO, d, E, gV N v, rfl, ho.same (kG.trans s8), gives_pairs hd, fun G9 s9 => ?_⟩
      have k9 := s8.trans s9
      refine ⟨_, k9 _ _ aD, ?_, fun b o e => (upd_ne (ne_of_none e hD)).trans (k9 _ _ (k _ _ e)), ?_⟩
      · rw [List.length_map, List.length_take, sizeLine_eq]
        simp only [List.length_cons, List.length_nil]
        omega
      · rw [upd_same, List.take_add_one, ho4, List.map_append]
        rfl
    rintro G6 ⟨k6, aD⟩
    have aD : G6 D = some (.lst [.int o1, .int o2, .int o3]) := aD
    refine ⟨_, rfl, D, _, 0, _, rfl, rfl, SqL.of aD, atI_nat (j := 0) rfl, _, rfl, D, _, 1, _, rfl, rfl, SqL.of aD, atI_nat (j := 1) rfl, _, rfl, D, _, 2, _, rfl, rfl, SqL.of aD, atI_nat (j := 2) rfl, o1, o2, o3, rfl, fun G7 s7 => ?_⟩
    rw [fits_tri tri so1 so2]
    refine ⟨true, true, rfl, rfl, _, rfl, iteF ?_⟩
    have k7 := k05.trans (k6.trans s7)
    clear tri so1 so2 so3 each aD a1 a2 a3
    have pt7 := pt.same k7
    refine ⟨3, rfl, by decide, by decide, fun D2 hD2 => ?_⟩
    have n2 := pt7.off hD2
    refine w_range (lo := 0) (n := 3) (fun j G => Pt G r ∧ (∀ b o, b ≠ r → b ≠ D2 → G7 b = some o → G b = some o) ∧ ∃ is : List Int, G D2 = some (.lst (is.map V.int)) ∧ is.length = j ∧ ∀ x ∈ is, Sg x)
      ⟨pt7.new hD2, fun b o _ n e => (upd_ne n).trans e, [], upd_same, rfl, fun x h => nomatch h⟩ ?_ ?_
    · rintro j G hj ⟨pG, kG, is, aD2, li, si⟩
      refine ⟨rfl, ?_⟩
      refine ⟨_, rfl, r, 3, rfl, pG, by decide, by decide, fun x G1 x0 x1 pG1 bG => ?_⟩
      refine ⟨_, _, rfl, rfl, _, bG _ _ n2 aD2, ?_, pG1.put n2, fun b o n n3 e => (upd_ne n3).trans (bG _ _ n (kG _ _ n n3 e)), is ++ [x - 1], ?_, ?_, fun y hy => ?_⟩
      · rw [List.length_map, sizeLine_eq]
        omega
      · rw [upd_same, List.map_append]
        rfl
      · rw [List.length_append, li]
        rfl
      · rcases List.mem_append.mp hy with hy | hy
        · exact si y hy
        · rw [List.mem_singleton.mp hy]
          unfold Sg
          omega
    rintro G8 ⟨pG8, kG8, is, aD2, li, si⟩
    obtain ⟨c0, c1, c2, rfl⟩ : ∃ c0 c1 c2, is = [c0, c1, c2] := by
      match is, li with
      | [a, b, c], _ => exact ⟨a, b, c, rfl⟩
    have sc0 := si c0 (by simp)
    have sc1 := si c1 (by simp)
    have sc2 := si c2 (by simp)
    have b78 : But r H G8 := fun b o n e => kG8 b o n (fun z => by
      have e2 := k7 _ _ e
      rw [z, hD2] at e2
      cases e2) (k7 _ _ e)
    have aD2 : G8 D2 = some (.lst [.int c0, .int c1, .int c2]) := aD2
    clear kG8
    refine ⟨3, none, rfl, by decide, fun ws G9 s9 tw q9 hq9 => ?_⟩
    have s10 := s9.trans (same_new (o := .lst ws) hq9)
    have tw := tw.mono (same_new (o := .lst ws) hq9)
    have a10 : upd G9 q9 (.lst ws) q9 = some (.lst ws) := upd_same
    generalize upd G9 q9 (.lst ws) = G10 at s10 tw a10 ⊢
    have lw := tw.len
    have lw27 : (weaks 3 none).length ≤ 27 := by
      have z := List.length_filter_le (good none) (combos (rg 3) 3)
      have z2 := combos_len (rg 3) 3
      rw [rg_len] at z2
      have z3 : (weaks 3 none).length = ((combos (rg 3) 3).filter (good none)).length := rfl
      omega
    refine ⟨q9, rfl, ⟨ws, SqL.of a10⟩, fun D3 hD3 => ?_⟩
    refine lc_list (xs := ws) (fun i G => Same G10 G ∧ ∃ vs, G D3 = some (.lst vs) ∧ (∀ v ∈ vs, v ≠ .ref D3) ∧ LstsAt G vs (((weaks 3 none).take i).map trip)) ⟨same_new hD3, [], upd_same, (fun v h => nomatch h), ⟨rfl, fun i v c h => by simp at h⟩⟩ (fun i G _ z => SqL.of (z.1 _ _ a10)) ?_ ?_
    · rintro i x G hx ⟨k, vs, aD3, ne, lst⟩
      obtain ⟨c, hc, p, rfl, hp⟩ := tw.at hx
      have l3 : c.length = 3 := (ranks_weak (List.mem_of_getElem? hc)).2
      obtain ⟨x0, x1, x2, rfl⟩ : ∃ x0 x1 x2, c = [x0, x1, x2] := by
        match c, l3 with
        | [a, b, c], _ => exact ⟨a, b, c, rfl⟩
      have hp := k _ _ hp
      refine ⟨rfl, ?_⟩
      refine ⟨_, rfl, p, [x0, x1, x2], 0, 1, x0, x1, rfl, hp, rfl, rfl, ?_⟩
      refine ⟨_, rfl, p, [x0, x1, x2], 1, 2, x1, x2, rfl, hp, rfl, rfl, ?_⟩
      refine ⟨_, rfl, p, [x0, x1, x2], 0, 2, x0, x2, rfl, hp, rfl, rfl, ?_⟩
      refine ⟨(by show 3 ≤ sizeLine; decide), fun TT hTT => ⟨vs, (upd_ne (ne_of_none aD3 hTT)).trans aD3, ?_, fun b o e => (upd_ne (ne_of_none e hD3)).trans ((upd_ne (ne_of_none (k _ _ e) hTT)).trans (k _ _ e)), vs ++ [.ref TT], upd_same, ?_, ?_⟩⟩
      · have z := lst.len
        rw [List.length_map, List.length_take] at z
        rw [sizeLine_eq]
        omega
      · intro v hv e
        rcases List.mem_append.mp hv with hv | hv
        · exact ne v hv e
        · rw [List.mem_singleton.mp hv] at e
          cases e
          rw [aD3] at hTT
          cases hTT
      · have lv := lst.len
        have nTD : TT ≠ D3 := fun z => by
          rw [z, aD3] at hTT
          cases hTT
        have e2 : ((weaks 3 none).take (i + 1)).map trip = ((weaks 3 none).take i).map trip ++ [trip [x0, x1, x2]] := by
          rw [List.take_add_one, hc, List.map_append]
          rfl
        rw [e2]
        refine ⟨by rw [List.length_append, List.length_append, lv]; rfl, fun m v c hv hcc => ?_⟩
        by_cases lt : m < vs.length
        · rw [List.getElem?_append_left lt] at hv
          rw [List.getElem?_append_left (by omega)] at hcc
          obtain ⟨b, rfl, hb⟩ := lst.at_ m v c hv hcc
          have nb : b ≠ D3 := fun z => ne _ (List.mem_of_getElem? hv) (by rw [z])
          exact ⟨b, rfl, (upd_ne nb).trans ((upd_ne (ne_of_none hb hTT)).trans hb)⟩
        · rw [List.getElem?_append_right (by omega)] at hv
          rw [List.getElem?_append_right (by omega)] at hcc
          have m0 : m = vs.length := by
            have z := (List.getElem?_eq_some_iff.mp hv).1
            simp only [List.length_cons, List.length_nil] at z
            omega
          rw [m0, Nat.sub_self] at hv
          rw [m0, lv, Nat.sub_self] at hcc
          cases hv
          cases hcc
          exact ⟨TT, rfl, (upd_ne nTD).trans upd_same⟩
    rintro G11 ⟨k11, vs, aD3, ne, lst⟩
    rw [lw, List.take_length] at lst
    have aD2 := k11 _ _ (s10 _ _ aD2)
    have k8 := s10.trans k11
    refine ⟨_, rfl, D2, _, 0, _, rfl, rfl, SqL.of aD2, atI_nat (j := 0) rfl, _, rfl, D2, _, 1, _, rfl, rfl, SqL.of aD2, atI_nat (j := 1) rfl, _, rfl, D2, _, 2, _, rfl, rfl, SqL.of aD2, atI_nat (j := 2) rfl, c0, c1, c2, rfl, fun G12 s12 => ?_⟩
    dsimp only [tNil]
    refine rep_bool ?_
    have lst2 : LstsAt G12 vs ((weaks 3 none).map trip) := ⟨lst.len, fun i v c h1 h2 => by
      obtain ⟨b, e, hb⟩ := lst.at_ i v c h1 h2
      exact ⟨b, e, s12 _ _ hb⟩⟩
    refine ⟨_, rfl, _, rfl, lD [c0, c1, c2], trips.map lD, .lst (SqL.of (s12 _ _ aD2)) (ints_dp [c0, c1, c2]), .lst (SqL.of (s12 _ _ aD3)) (lsts_dp lst2), ints_shaped _, lDs_shaped _, ?_⟩
    rw [lDs_any, trips_fit sc0 sc1 sc2]
    dsimp only [tNil]
    refine rep_bool ?_
    have k12 := k8.trans s12
    have q' := q G12 (pG8.same k12) (b78.trans (But.of k12))
    refine ⟨rfl, ?_⟩
    rw [decide_eq_true rfl]
    exact q'
end
end K19

set_option Elab.async false
set_option linter.all false
set_option maxRecDepth 100000
set_option maxHeartbeats 8000000
namespace K19
open PySem PySem.Spec L2 PSG PSS
open PyProof.Rows (IntsAre AllBare)
abbrev s__law_sorted_right : Stmt := topS 60
theorem sc__law_sorted_right : FnScope ["_law_names", "_law_order", "_law_rows", "_law_left", "_law_made", "_law_least", "_law_row", "_law_at", "_law_later"] ["_law_names", "_law_order", "_law_rows"] (defScope s__law_sorted_right) := ⟨rfl, rfl, rfl, by decide +kernel, rfl, by decide +kernel, by decide +kernel⟩
theorem str_ok {x : Str} (h : allLet x = true) : PyData.strOk x = true := by
  unfold PyData.strOk
  rw [Array.all_eq_true_iff_forall_mem]
  intro c hc
  have m : c ∈ x.cps.toList := by simpa using hc
  unfold allLet lets at h
  rw [List.all_map, List.all_eq_true] at h
  have z : c ∈ abc.cps.toList := by simpa using h c m
  have s : ∀ c ∈ abc.cps.toList, c < 0x110000 := by
    have y : (abc.cps.toList.all fun c => decide (c < 0x110000)) = true := by decide +kernel
    intro c hc
    exact of_decide_eq_true (List.all_eq_true.mp y c hc)
  exact decide_eq_true (s c z)
theorem vals_lay : ∀ {ds : List PyData}, (∀ d ∈ ds, kd d ≠ 0) → PyData.canLayAll0 ds = true ∧ PyData.depthAll ds ≤ 1
  | [], _ => by simp [PyData.canLayAll0, PyData.depthAll]
  | d :: r, n => by
    obtain ⟨h1, h2⟩ := vals_lay (ds := r) fun e m => n e (List.mem_cons_of_mem _ m)
    have k := n d List.mem_cons_self
    have one : d.canLay0 = true ∧ d.depth ≤ 1 := by
      cases d with
      | int i => simp [PyData.canLay0, PyData.depth]
      | str x => exact ⟨by simp only [PyData.canLay0]; exact str_ok (kd_let k).1, by simp [PyData.depth]⟩
      | _ => exact absurd rfl k
    refine ⟨by simp only [PyData.canLayAll0, one.1, h1, Bool.and_self], ?_⟩
    have z := one.2
    simp only [PyData.depthAll]
    omega
theorem eqv_nil (ds : List PyData) : PyData.eqv (.list ds) (.list []) = ds.isEmpty := by
  cases ds <;> simp [PyData.eqv, PyData.eqvAll]
theorem cut_from (xs : List V) (n : Nat) : cutV xs (some (n : Int)) none = xs.drop n := by
  unfold cutV
  rw [HT.sIx_none, HT.sIx_nat]
  by_cases h : n ≤ xs.length
  · rw [Nat.min_eq_left h, List.take_of_length_le (by rw [List.length_drop]; omega)]
  · rw [Nat.min_eq_right (by omega), Nat.sub_self, List.take_zero, List.drop_eq_nil_of_le (by omega)]

/-- the sign of two rows by entries -/
def sS (N : List Str) (E : List Ent) (r q : List Key) : Int := oS N E (vec r q)
theorem sS_swap (N : List Str) (E : List Ent) (r q : List Key) : sS N E q r = -(sS N E r q) := by
  unfold sS
  rw [← vec_swap r q, oS_neg]
theorem sS_self (N : List Str) (E : List Ent) (r : List Key) : sS N E r r = 0 := by
  have := sS_swap N E r r
  omega
theorem sS_sg (N : List Str) (E : List Ent) (r q : List Key) : Sg (sS N E r q) := oS_sg N E (vec_small r q)
/-- a row, as data -/
def kD (r : List Key) : PyData := .list (r.map dK)
theorem kD_ok {ts : List Bool} {r : List Key} (h : RowOk ts r) : (kD r).canLay0 = true ∧ (kD r).depth ≤ 2 := by
  have z := vals_lay (ds := r.map dK) fun d hd => by
    obtain ⟨k, hk, rfl⟩ := List.mem_map.mp hd
    obtain ⟨j, hj⟩ := List.mem_iff_getElem?.mp hk
    have jl := (List.getElem?_eq_some_iff.mp hj).1
    have e : ts[j]? = some (ts[j]'(by have := h.len; omega)) := List.getElem?_eq_getElem _
    exact kok_ne (h.ok j _ k e hj)
  unfold kD
  refine ⟨by simp only [PyData.canLay0]; exact z.1, ?_⟩
  have := z.2
  simp only [PyData.depth]
  omega
theorem kD_shaped {ts : List Bool} {r : List Key} (h : RowOk ts r) : SeqAt.shaped (kD r) = true := by
  have z := kD_ok h
  show ((kD r).canLay0 && decide ((kD r).depth ≤ 64)) = true
  rw [z.1, decide_eq_true (by omega)]
  rfl
theorem kDs_ok {ts : List Bool} : ∀ {L : List (List Key)}, (∀ r ∈ L, RowOk ts r) → PyData.canLayAll0 (L.map kD) = true ∧ PyData.depthAll (L.map kD) ≤ 2
  | [], _ => by simp [PyData.canLayAll0, PyData.depthAll]
  | r :: L, h => by
    obtain ⟨h1, h2⟩ := kDs_ok (L := L) fun x m => h x (List.mem_cons_of_mem _ m)
    obtain ⟨k1, k2⟩ := kD_ok (h r List.mem_cons_self)
    rw [List.map_cons, PyData.canLayAll0, PyData.depthAll, k1, h1]
    exact ⟨rfl, by omega⟩
theorem kDs_shaped {ts : List Bool} {L : List (List Key)} (h : ∀ r ∈ L, RowOk ts r) : SeqAt.shaped (.list (L.map kD)) = true := by
  obtain ⟨h1, h2⟩ := kDs_ok h
  have e : (PyData.list (L.map kD)).canLay0 = true := by simp only [PyData.canLay0, h1]
  have e2 : (PyData.list (L.map kD)).depth ≤ 64 := by simp only [PyData.depth]; omega
  show ((PyData.list (L.map kD)).canLay0 && decide ((PyData.list (L.map kD)).depth ≤ 64)) = true
  rw [e, decide_eq_true e2]
  rfl
theorem keys_dp {K : PySem.W.Frag} {H : Hp} : ∀ r : List Key, DpAll K H (r.map kV) (r.map dK)
  | [] => .nil
  | k :: r => .cons (by
      cases k with
      | inl i => exact .int i
      | inr x => exact .str x) (keys_dp r)
theorem row_dp {K : PySem.W.Frag} {H : Hp} {b : Addr} {r : List Key} (h : H b = some (.lst (r.map kV))) : Dp K H (.ref b) (kD r) := .lst (SqL.of h) (keys_dp r)
theorem rows_dp {K : PySem.W.Frag} {H : Hp} : ∀ {us : List V} {L : List (List Key)}, RowsAt H us L → DpAll K H us (L.map kD)
  | [], [], _ => .nil
  | [], _ :: _, h => by cases h.len
  | _ :: _, [], h => by cases h.len
  | v :: vs, r :: L, h => by
    obtain ⟨r', e1, b, e, hb⟩ := h.at_ 0 v rfl
    cases e1
    subst e
    exact .cons (row_dp hb) (rows_dp ⟨Nat.succ.inj h.len, fun i v h1 => by
      obtain ⟨q, z, y⟩ := h.at_ (i + 1) v (by simpa using h1)
      exact ⟨q, by simpa using z, y⟩⟩)
/-- the first one that is equal -/
theorem first_eq {d : PyData} (rf : PyData.eqv d d = true) : ∀ {ds : List PyData}, d ∈ ds → ∃ j z, ds[j]? = some z ∧ PyData.eqv z d = true ∧ ∀ (m : Nat) z', m < j → ds[m]? = some z' → PyData.eqv z' d = false
  | x :: ds, h => by
    by_cases e : PyData.eqv x d = true
    · exact ⟨0, x, rfl, e, fun m z' lt => by omega⟩
    · have hm : d ∈ ds := by
        rcases List.mem_cons.mp h with z | z
        · subst z
          exact absurd rf e
        · exact z
      obtain ⟨j, z, h1, h2, h3⟩ := first_eq rf hm
      refine ⟨j + 1, z, by simpa using h1, h2, fun m z' lt hz => ?_⟩
      cases m with
      | zero =>
        cases hz
        exact Bool.eq_false_iff.mpr e
      | succ m => exact h3 m z' (by omega) (by simpa using hz)
theorem RowsAt.erase {H : Hp} {us : List V} {L : List (List Key)} (h : RowsAt H us L) (j : Nat) : RowsAt H (us.eraseIdx j) (L.eraseIdx j) := by
  have l := h.len
  refine ⟨?_, fun i v e => ?_⟩
  · rw [List.length_eraseIdx, List.length_eraseIdx, l]
  · rw [List.getElem?_eraseIdx] at e
    rw [List.getElem?_eraseIdx]
    by_cases lt : i < j
    · rw [if_pos lt] at e ⊢
      exact h.at_ i v e
    · rw [if_neg lt] at e ⊢
      exact h.at_ (i + 1) v e
theorem RowsAt.push {H : Hp} {us : List V} {L : List (List Key)} (h : RowsAt H us L) {v : V} {r : List Key} (k : RowAt H v r) : RowsAt H (us ++ [v]) (L ++ [r]) := by
  have l := h.len
  refine ⟨by rw [List.length_append, List.length_append, l]; rfl, fun i u e => ?_⟩
  by_cases lt : i < us.length
  · rw [List.getElem?_append_left lt] at e
    rw [List.getElem?_append_left (by omega)]
    exact h.at_ i u e
  · rw [List.getElem?_append_right (by omega)] at e
    have i0 : i = us.length := by
      have z := (List.getElem?_eq_some_iff.mp e).1
      simp only [List.length_cons, List.length_nil] at z
      omega
    subst i0
    rw [Nat.sub_self] at e
    cases e
    rw [List.getElem?_append_right (by omega), l, Nat.sub_self]
    exact ⟨r, rfl, k⟩
/-- sorted so far: what is made, what is left -/
structure Srt (N : List Str) (E : List Ent) (ts : List Bool) (M L : List (List Key)) : Prop where
  okM : ∀ r ∈ M, RowOk ts r
  okL : ∀ r ∈ L, RowOk ts r
  pw : M.Pairwise fun a b => ¬ sS N E a b = 1
  cross : ∀ m ∈ M, ∀ l ∈ L, ¬ sS N E m l = 1
theorem Srt.step {N : List Str} {E : List Ent} {ts : List Bool} {M L : List (List Key)} (h : Srt N E ts M L) {r : List Key} (hr : r ∈ L) (least : ∀ x ∈ L, ¬ sS N E r x = 1) (j : Nat) : Srt N E ts (M ++ [r]) (L.eraseIdx j) := by
  have sub : ∀ x ∈ L.eraseIdx j, x ∈ L := fun x hx => List.mem_of_mem_eraseIdx hx
  refine ⟨fun x hx => ?_, fun x hx => h.okL x (sub x hx), ?_, fun m hm l hl => ?_⟩
  · rcases List.mem_append.mp hx with hx | hx
    · exact h.okM x hx
    · rw [List.mem_singleton.mp hx]
      exact h.okL r hr
  · exact List.pairwise_append.mpr ⟨h.pw, List.pairwise_singleton _ _, fun a ha b hb => by
      rw [List.mem_singleton.mp hb]
      exact h.cross a ha r hr⟩
  · rcases List.mem_append.mp hm with hm | hm
    · exact h.cross m hm l (sub l hl)
    · rw [List.mem_singleton.mp hm]
      exact least l (sub l hl)
/-- the less one of two, beside a third -/
theorem less_step {ts : List Bool} {N : List Str} {E : List Ent} {r l x : List Key} (hr : RowOk ts r) (hl : RowOk ts l) (hx : RowOk ts x) (nd : N.Nodup) (lN : N.length = ts.length) (inN : ∀ en ∈ E, en.1 ∈ N) (h : sS N E r l = -1) (k : ¬ sS N E l x = 1) : ¬ sS N E r x = 1 := by
  have t : Tri (sS N E r l) (sS N E l x) (sS N E r x) := oS_tri hr hl hx nd lN inN
  rcases sS_sg N E l x with z | z | z
  · rw [t.m h z]
    decide
  · rw [← t.b z, h]
    decide
  · exact absurd z k
end K19

set_option Elab.async false
set_option linter.all false
set_option maxRecDepth 100000
set_option maxHeartbeats 8000000
namespace K19
open PySem PySem.Spec L2 PSG PSS
open PyProof.Rows (IntsAre AllBare)

section
variable {P : Program} {w : World} {K : PySem.W.Frag} {mg : Str → Option Value} {base : Heap}
def spSortR (C : Addr) : Sp := fun vs H Q _ => ∃ (aN pO aR : Addr) (N : List Str) (E : List Ent) (us : List V) (R : List (List Key)) (ts : List Bool), vs = [.ref aN, .ref pO, .ref aR] ∧ H aN = some (.lst (N.map V.str)) ∧ OrdAt C H pO E ∧ H aR = some (.lst us) ∧ RowsAt H us R ∧ Tab ts R ∧ R.length ≤ 4 ∧
  N.length = ts.length ∧ N.Nodup ∧ (∀ en ∈ E, en.1 ∈ N) ∧ ∀ H', Same H H' → Q (.bl true) H'
theorem ok_sortR {C f f1 f6 : Addr} {fd d1 d6 : FuncData} (F : Fun K "_law_sorted_right" "_law_sorted_right" s__law_sorted_right f fd) (T : Blt mg) (O : OrdC K mg C)
    (F__law_vector : Fun K "_law_vector" "_law_vector" s__law_vector f1 d1) (b__law_vector : Binds K d1 ["_law_one", "_law_other"] []) (g__law_vector : mg "_law_vector" = some (.ref f1)) (G__law_vector : FnOk P w K mg base CX0 4 f1 d1 ["_law_one", "_law_other"] spLVec)
    (M_sign : Meth K C "sign" f6) (b_sign : Binds K d6 ["self", "signs"] []) (G_sign : FnOk P w K mg base CX0 2 f6 d6 ["self", "signs"] (spOSign C)) :
    FnOk P w K mg base CX0 5 f fd ["_law_names", "_law_order", "_law_rows"] (spSortR C) := by
  have sc := sc__law_sorted_right
  refine F.ok sc (fun vs H Q E h => ?_) (fun cdv A outer s H vs Q E hr h => ?_)
  · obtain ⟨aN, pO, aR, N, E, us, R, ts, rfl, _⟩ := h
    rfl
  · obtain ⟨aN, pO, aR, N, E, us_, R, ts, rfl, hN, ho, hR, rows, tab, l4, lN, nd, inN, q⟩ := h
    refine ⟨_, (pss_cons (ps_par (i := 3) (j := 4) (by rfl) sc.nd rfl rfl (by decide) rfl rfl (pa_cons (pe_callTy call_list_of (by rfl) T.n_list (by decide +kernel) (pa_cons (pv 2) pa_nil)) (pa_cons (pe_lst pa_nil) pa_nil)) (by rfl))
      (pss_cons (ps_while PassesOwn.never (pt_cmpR (op_neD hr.units) (pv 3) (pe_lst pa_nil) (nomark _)) (pss_cons (ps_set (i := 5) sc.nd rfl (.inl rfl) (pe_ix ix_list (pv 3) pe_int (fun _ _ => rfl)))
      (pss_cons (ps_for PassesOwn.never (by rfl) (pi_list (pv 3)) (pg_name (i := 6) sc.nd rfl (.inl rfl)) (pss_one (ps_if (pt_cmpR op_eq (pe_meth (pv 1) O.cl M_sign G_sign (hr.mono (by decide)) b_sign .nil pass0 (pa_cons (pe_callTy (call_dictP rfl) (by rfl) T.n_dict (by decide +kernel) (pa_cons (PSY.pe_listZip (by rfl) (by rfl) T.n_list (by rfl) T.n_zip (pa_cons (pv 0) (pa_cons (pe_call G__law_vector (hr.mono (by decide)) (by rfl) g__law_vector F__law_vector.kp b__law_vector .nil pass0 (pa_cons (pv 6) (pa_cons (pv 5) pa_nil))) pa_nil))) pa_nil)) pa_nil)) (pe_un un_neg pe_int) (nomark _)) (pss_one (ps_set (i := 5) sc.nd rfl (.inl rfl) (pv 6))) pss_nil)))
      (pss_cons (ps_expr (pe_bm PySem.F.plainAttrs_list PySem.F.slot_list_append PySem.F.type_list_append mt_append (pv 4) (pa_cons (pv 5) pa_nil)))
      (pss_one (ps_expr (pe_bm PySem.F.plainAttrs_list PySem.F.slot_list_remove PySem.F.type_list_remove (PSY.mt_removeD (PSY.hu65 hr)) (pv 3) (pa_cons (pv 5) pa_nil))))))))
      (pss_cons (ps_for PassesOwn.never (by rfl) (pi_range1 (by rfl) T.n_range (pa_cons (pe_callB call_len_seq (by rfl) T.n_len PySem.boot_len (pa_cons (pv 4) pa_nil)) pa_nil)) (pg_name (i := 7) sc.nd rfl (.inl rfl)) (pss_one (ps_for PassesOwn.never (by rfl) (pi_list (pe_slice sl_list (pv 4) (po_some (pv 7)) po_none)) (pg_name (i := 8) sc.nd rfl (.inl rfl)) (pss_one (ps_if (pt_cmpR op_eq (pe_meth (pv 1) O.cl M_sign G_sign (hr.mono (by decide)) b_sign .nil pass0 (pa_cons (pe_callTy (call_dictP rfl) (by rfl) T.n_dict (by decide +kernel) (pa_cons (PSY.pe_listZip (by rfl) (by rfl) T.n_list (by rfl) T.n_zip (pa_cons (pv 0) (pa_cons (pe_call G__law_vector (hr.mono (by decide)) (by rfl) g__law_vector F__law_vector.kp b__law_vector .nil pass0 (pa_cons (pe_ix ix_list (pv 4) (pv 7) (fun _ _ => rfl)) (pa_cons (pv 8) pa_nil))) pa_nil))) pa_nil)) pa_nil)) pe_int (nomark _)) (pss_one (ps_ret pe_bl)) pss_nil)))))
      (pss_one (ps_ret (pe_cmpR op_eq (pe_callB call_len_seq (by rfl) T.n_len PySem.boot_len (pa_cons (pv 4) pa_nil)) (pe_callB call_len_seq (by rfl) T.n_len PySem.boot_len (pa_cons (pv 2) pa_nil)) (nomark _))))))), ?_⟩
    have few := tab.few
    have lu := rows.len
    obtain ⟨dx, tx, xsO, hoa, hob, hoc⟩ := id ho.ex
    refine ⟨_, rfl, aR, _, rfl, .inl (SqL.of hR), fun Lx hLx => ⟨Nat.zero_le _, fun Mx hMx => ?_⟩⟩
    have nLM : Lx ≠ Mx := fun z => by
      rw [← z, upd_same] at hMx
      cases hMx
    have hMx0 : H Mx = none := by
      rw [upd_ne (Ne.symm nLM)] at hMx
      exact hMx
    have s0 := (same_new (o := .lst us_) hLx).trans (same_new (o := .lst []) hMx)
    have aL0 : upd (upd H Lx (.lst us_)) Mx (.lst []) Lx = some (.lst us_) := (upd_ne nLM).trans upd_same
    have aM0 : upd (upd H Lx (.lst us_)) Mx (.lst []) Mx = some (.lst []) := upd_same
    generalize upd (upd H Lx (.lst us_)) Mx (.lst []) = H0 at s0 aL0 aM0 ⊢
    refine ⟨_, _, rfl, ?_⟩
    refine ⟨fun p σ G => ∃ us ms L M y5 y6, σ = [some (.ref aN), some (.ref pO), some (.ref aR), some (.ref Lx), some (.ref Mx), y5, y6, none, none] ∧ Same H G ∧ G Lx = some (.lst us) ∧ G Mx = some (.lst ms) ∧ RowsAt H us L ∧ RowsAt H ms M ∧ Srt N E ts M L ∧ us.length = p ∧ M.length + L.length = R.length,
      ⟨us_.length, us_, [], R, [], none, none, rfl, s0, aL0, aM0, rows, ⟨rfl, fun i v e => by simp at e⟩, ⟨fun r h => (nomatch h), tab.ok, List.Pairwise.nil, fun m h => (nomatch h)⟩, rfl, by simp⟩, ?_⟩
    rintro p σ G ⟨us, ms, L, M, y5, y6, rfl, k, aL, aM, rL, rM, srt, lp, tot⟩
    have lL := rL.len
    have lM := rM.len
    have rLG := rL.same k
    refine ⟨_, rfl, Nat.zero_le _, fun e0 he0 => ?_⟩
    have s1 := same_new (o := .lst []) he0
    have ae : upd G e0 (.lst []) e0 = some (.lst []) := upd_same
    generalize upd G e0 (.lst []) = G1 at s1 ae ⊢
    have k1 := k.trans s1
    have aL1 := s1 _ _ aL
    have aM1 := s1 _ _ aM
    refine ⟨_, _, .lst (SqL.of aL1) (rows_dp (rL.same k1)), .lst (SqL.of ae) .nil, kDs_shaped srt.okL, by decide +kernel, ?_⟩
    rw [eqv_nil]
    refine ⟨_, rfl, ite2 (fun e => ?_) (fun e => ?_)⟩
    · have ne : L ≠ [] := fun z => by
        rw [z] at e
        cases e
      have pos : 0 < L.length := List.length_pos_iff.mpr ne
      have u0 : us[0]? = some us[0] := List.getElem?_eq_getElem (by omega)
      obtain ⟨r0, hr0, b0, hb0, hb0'⟩ := rL.at_ 0 _ u0
      rw [hb0] at u0
      refine ⟨fun σ G => ∃ us ms L M y5 y6, σ = [some (.ref aN), some (.ref pO), some (.ref aR), some (.ref Lx), some (.ref Mx), y5, y6, none, none] ∧ Same H G ∧ G Lx = some (.lst us) ∧ G Mx = some (.lst ms) ∧ RowsAt H us L ∧ RowsAt H ms M ∧ Srt N E ts M L ∧ us.length + 1 = p ∧ M.length + L.length = R.length,
        fun σ' G' ⟨us, ms, L, M, y5, y6, h1, h2, h3, h4, h5, h6, h7, h8, h9⟩ => ⟨us.length, by omega, us, ms, L, M, y5, y6, h1, h2, h3, h4, h5, h6, h7, rfl, h9⟩, ?_⟩
      refine ⟨_, rfl, Lx, us, 0, _, rfl, rfl, SqL.of aL1, atI_nat (j := 0) u0, ?_⟩
      refine ⟨_, rfl, Lx, rfl, ⟨us, SqL.of aL1⟩, ?_⟩
      refine for_list (xs := us) (fun i σ G => ∃ b lr y6, σ = [some (.ref aN), some (.ref pO), some (.ref aR), some (.ref Lx), some (.ref Mx), some (.ref b), y6, none, none] ∧ Same G1 G ∧ H b = some (.lst (lr.map kV)) ∧ lr ∈ L ∧ ∀ (j : Nat) x, j < i → L[j]? = some x → ¬ sS N E lr x = 1)
        ⟨b0, r0, _, rfl, Same.refl _, hb0', List.mem_of_getElem? hr0, fun j x lt => by omega⟩ (fun i σ G _ ⟨_, _, _, _, k, _⟩ => SqL.of (k _ _ aL1)) ?_ ?_
      · rintro i x σ G2 hx ⟨b, lr, y6, rfl, k2, hb, ml, le⟩
        obtain ⟨r, hr2, bx, rfl, hbx⟩ := rL.at_ i x hx
        have okr := srt.okL r (List.mem_of_getElem? hr2)
        have okl := srt.okL lr ml
        have k12 := k1.trans k2
        refine ⟨_, rfl, pO, dx, _, rfl, k12 _ _ hoa, rfl, _, rfl, _, rfl, _, rfl, bx, b, ts, r, lr, rfl, k12 _ _ hbx, k12 _ _ hb, okr, okl, few, fun p1 G3 s3 _ a1 => ?_⟩
        have k13 := k12.trans s3
        have lv := vec_len okr okl
        dsimp only [tNil]
        refine zd (k13 _ _ hN) a1 (by omega) nd (by omega) fun q8 H8 d mg8 s8 => ?_
        rw [mg8]
        have hd : upd H8 d (.dK (pairsK N (vec r lr))) d = some (.dK (pairsK N (vec r lr))) := upd_same
        generalize upd H8 d (.dK (pairsK N (vec r lr))) = G8 at s8 hd ⊢
        refine ⟨pO, d, E, gV N (vec r lr), rfl, ho.same (k13.trans s8), gives_pairs hd, fun G9 s9 => ?_⟩
        have e9 : sgE (gV N (vec r lr)) E = sS N E r lr := rfl
        rw [e9]
        have k29 := k2.trans (s3.trans (s8.trans s9))
        refine ⟨_, rfl, rfl, _, rfl, ite2 (fun e3 => ?_) (fun e3 => ?_)⟩
        · have c3 : sS N E r lr = -1 := V.int.inj (of_decide_eq_true e3)
          refine ⟨_, rfl, bx, r, _, rfl, k29, hbx, List.mem_of_getElem? hr2, fun j x lt hj => ?_⟩
          rcases Nat.lt_succ_iff_lt_or_eq.mp lt with lt | rfl
          · exact less_step okr okl (srt.okL x (List.mem_of_getElem? hj)) nd lN inN c3 (le j x lt hj)
          · rw [hr2] at hj
            cases hj
            rw [sS_self]
            decide
        · have c3 : ¬ sS N E r lr = -1 := fun z => e3 (decide_eq_true (congrArg V.int z))
          refine ⟨b, lr, _, rfl, k29, hb, ml, fun j x lt hj => ?_⟩
          rcases Nat.lt_succ_iff_lt_or_eq.mp lt with lt | rfl
          · exact le j x lt hj
          · rw [hr2] at hj
            cases hj
            rw [sS_swap N E r lr]
            omega
      · rintro σ G2 ⟨b, lr, y6, rfl, k2, hb, ml, le⟩
        have least : ∀ x ∈ L, ¬ sS N E lr x = 1 := fun x hx => by
          obtain ⟨j, hj⟩ := List.mem_iff_getElem?.mp hx
          exact le j x (by rw [lL]; exact (List.getElem?_eq_some_iff.mp hj).1) hj
        have okl := srt.okL lr ml
        have aL2 := k2 _ _ aL1
        have aM2 := k2 _ _ aM1
        have k12 := k1.trans k2
        refine ⟨_, rfl, .inl ⟨rfl, _, SqL.of aM2⟩, _, rfl, _, _, _, rfl, rfl, aM2, by rw [sizeLine_eq]; omega, ?_⟩
        have aL3 : upd G2 Mx (.lst (ms ++ [.ref b])) Lx = some (.lst us) := (upd_ne nLM).trans aL2
        have aM3 : upd G2 Mx (.lst (ms ++ [.ref b])) Mx = some (.lst (ms ++ [.ref b])) := upd_same
        have k3 : Same H (upd G2 Mx (.lst (ms ++ [.ref b]))) := fun c o e => (upd_ne (ne_of_none e hMx0)).trans (k12 c o e)
        generalize upd G2 Mx (.lst (ms ++ [.ref b])) = G3 at aL3 aM3 k3 ⊢
        obtain ⟨j, z, hz, ez, no⟩ := first_eq (d := kD lr) (PySem.SeqAt.eqv_refl _ (kD_ok okl).1) (ds := L.map kD) (List.mem_map_of_mem ml)
        have jl : j < L.length := by
          have := (List.getElem?_eq_some_iff.mp hz).1
          rw [List.length_map] at this
          exact this
        refine ⟨_, rfl, .inl ⟨rfl, _, SqL.of aL3⟩, _, rfl, Lx, .ref b, us, kD lr, L.map kD, j, z, rfl, rfl, aL3, rows_dp (rL.same k3), row_dp (k3 _ _ hb), kDs_shaped srt.okL, kD_shaped okl, hz, ez, no, ?_⟩
        have lM2 : (ms ++ [V.ref b]).length = (M ++ [lr]).length := by rw [List.length_append, List.length_append, lM]; rfl
        refine ⟨us.eraseIdx j, ms ++ [.ref b], L.eraseIdx j, M ++ [lr], _, _, rfl, fun c o e => (upd_ne (ne_of_none e hLx)).trans (k3 c o e), upd_same, (upd_ne (Ne.symm nLM)).trans aM3, rL.erase j, rM.push ⟨b, rfl, hb⟩, srt.step ml least j, ?_, ?_⟩
        · rw [List.length_eraseIdx, if_pos (by omega)]
          omega
        · rw [List.length_append, List.length_eraseIdx, if_pos jl, List.length_singleton]
          omega
    · have nil : L = [] := by
        cases L with
        | nil => rfl
        | cons a b => exact absurd rfl e
      subst nil
      have totM : M.length = R.length := by simpa using tot
      refine ⟨_, rfl, Mx, _, rfl, .inl (SqL.of aM1), _, rfl, by omega, by omega, ?_⟩
      refine for_range (lo := 0) (n := ((ms.length : Nat) : Int).toNat) (fun i σ G => ∃ y7 y8, σ = [some (.ref aN), some (.ref pO), some (.ref aR), some (.ref Lx), some (.ref Mx), y5, y6, y7, y8] ∧ Same G1 G) ⟨_, _, rfl, Same.refl _⟩ ?_ ?_
      · rintro i σ G2 hi ⟨y7, y8, rfl, k2⟩
        have il : i < M.length := by omega
        refine ⟨_, rfl, _, rfl, _, rfl, Mx, _, rfl, SqL.of (k2 _ _ aM1), fun q1 n1 => ?_⟩
        rw [Int.zero_add, cut_from]
        have s3 := same_new (o := .lst (ms.drop i)) n1
        have aq : upd G2 q1 (.lst (ms.drop i)) q1 = some (.lst (ms.drop i)) := upd_same
        generalize upd G2 q1 (.lst (ms.drop i)) = G3 at s3 aq ⊢
        refine ⟨q1, rfl, ⟨_, SqL.of aq⟩, ?_⟩
        refine for_list (xs := ms.drop i) (fun j σ G => ∃ y8, σ = [some (.ref aN), some (.ref pO), some (.ref aR), some (.ref Lx), some (.ref Mx), y5, y6, some (.int (i : Nat)), y8] ∧ Same G3 G) ⟨_, rfl, Same.refl _⟩ (fun j σ G _ ⟨_, _, k⟩ => SqL.of (k _ _ aq)) ?_ ?_
        · rintro j x σ G4 hx ⟨y8, rfl, k4⟩
          rw [List.getElem?_drop] at hx
          have mi : ms[i]? = some ms[i] := List.getElem?_eq_getElem (by omega)
          obtain ⟨r, hr2, br, er, hbr⟩ := rM.at_ i _ mi
          rw [er] at mi
          obtain ⟨u, hu2, bu, rfl, hbu⟩ := rM.at_ (i + j) x hx
          have okr := srt.okM r (List.mem_of_getElem? hr2)
          have oku := srt.okM u (List.mem_of_getElem? hu2)
          have k24 := k2.trans (s3.trans k4)
          have k14 := k1.trans k24
          refine ⟨_, rfl, pO, dx, _, rfl, k14 _ _ hoa, rfl, _, rfl, _, rfl, _, rfl, Mx, _, _, _, rfl, rfl, SqL.of (k24 _ _ aM1), atI_nat mi, _, rfl, br, bu, ts, r, u, rfl, k14 _ _ hbr, k14 _ _ hbu, okr, oku, few, fun p1 G5 s5 _ a1 => ?_⟩
          have k15 := k14.trans s5
          have lv := vec_len okr oku
          dsimp only [tNil]
          refine zd (k15 _ _ hN) a1 (by omega) nd (by omega) fun q8 H8 d mg8 s8 => ?_
          rw [mg8]
          have hd : upd H8 d (.dK (pairsK N (vec r u))) d = some (.dK (pairsK N (vec r u))) := upd_same
          generalize upd H8 d (.dK (pairsK N (vec r u))) = G8 at s8 hd ⊢
          refine ⟨pO, d, E, gV N (vec r u), rfl, ho.same (k15.trans s8), gives_pairs hd, fun G9 s9 => ?_⟩
          have e9 : sgE (gV N (vec r u)) E = sS N E r u := rfl
          rw [e9]
          have no : ¬ sS N E r u = 1 := by
            by_cases j0 : j = 0
            · subst j0
              rw [Nat.add_zero, hr2] at hu2
              cases hu2
              rw [sS_self]
              decide
            · obtain ⟨l1, e1⟩ := List.getElem?_eq_some_iff.mp hr2
              obtain ⟨l2, e2⟩ := List.getElem?_eq_some_iff.mp hu2
              have z := List.pairwise_iff_getElem.mp srt.pw i (i + j) l1 l2 (by omega)
              rw [e1, e2] at z
              exact z
          refine ⟨rfl, _, rfl, ite2 (fun e3 => ?_) (fun e3 => ?_)⟩
          · exact absurd (V.int.inj (of_decide_eq_true e3)) no
          · exact ⟨_, rfl, k4.trans (s5.trans (s8.trans s9))⟩
        · rintro σ G4 ⟨y8, rfl, k4⟩
          exact ⟨_, _, rfl, k2.trans (s3.trans k4)⟩
      · rintro σ G2 ⟨y7, y8, rfl, k2⟩
        have k12 := k1.trans k2
        refine ⟨_, rfl, Mx, _, rfl, .inl (SqL.of (k2 _ _ aM1)), _, rfl, aR, _, rfl, .inl (SqL.of (k12 _ _ hR)), rfl, ?_⟩
        have e1 : ms.length = us_.length := by omega
        rw [e1, decide_eq_true rfl]
        exact q G2 k12
end
end K19

set_option Elab.async false
set_option linter.all false
set_option maxRecDepth 100000
set_option maxHeartbeats 8000000
namespace K19
open PySem PySem.Spec L2 PSG PSS
open PyProof.Rows (IntsAre AllBare)
abbrev s__law_right : Stmt := topS 61
theorem sc__law_right : FnScope ["_law_pot_here", "_law_names", "_law_kinds", "_law_rows", "_law_left", "_law_entries_here", "_law_turn", "_law_order", "_law_some", "_law_ranks", "_law_name", "_law_is_text"] ["_law_pot_here"] (defScope s__law_right) := ⟨rfl, rfl, rfl, by decide +kernel, rfl, by decide +kernel, by decide +kernel⟩
theorem cut_to (xs : List V) (n : Nat) : cutV xs none (some (n : Int)) = xs.take n := by
  unfold cutV
  rw [HT.sIx_none, HT.sIx_nat, List.drop_zero, Nat.sub_zero]
  by_cases h : n ≤ xs.length
  · rw [Nat.min_eq_left h]
  · rw [Nat.min_eq_right (by omega), List.take_of_length_le (Nat.le_refl _), List.take_of_length_le (by omega)]
theorem SeqE.mk {H : Hp} {a : Addr} {xs : List V} {E : List Ent} (h : H a = some (.lst xs) ∨ H a = some (.tup xs)) (c : EntsAt H xs E) : SeqE H (.ref a) E := ⟨a, xs, rfl, h, c⟩
theorem same_make {H : Hp} {C x dx : Addr} (nx : H x = none) (nd : H dx = none) : Same H (upd (upd H dx (.own x)) x (.ins C dx [])) := fun b o e => (upd_ne (ne_of_none e nx)).trans ((upd_ne (ne_of_none e nd)).trans e)

def five : List Str := ["a", "b", "r.a", "coming", "zz"]
theorem five_col : ∀ x ∈ five, Col x := by
  intro x hx
  simp only [five, List.mem_cons, List.not_mem_nil, or_false] at hx
  rcases hx with rfl | rfl | rfl | rfl | rfl
  · exact col_word (by decide +kernel) (by decide) (by decide) (by decide)
  · exact col_word (by decide +kernel) (by decide) (by decide) (by decide)
  · have e : ("r.a" : Str) = ("r" : Str) ++ "." ++ "a" := by decide +kernel
    rw [e]
    exact col_two (by decide +kernel) (by decide +kernel) (by decide) (by decide) (by decide) (by decide)
  · exact col_word (by decide +kernel) (by decide) (by decide) (by decide)
  · exact col_word (by decide +kernel) (by decide) (by decide) (by decide)
theorem RowsAt.keep {H H' : Hp} {us : List V} {R : List (List Key)} {p : Addr → Prop} (h : RowsAt H us R) (ad : ∀ b, V.ref b ∈ us → p b) (k : ∀ b o, p b → H b = some o → H' b = some o) : RowsAt H' us R := ⟨h.len, fun i v e => by
  obtain ⟨r, a, b, rfl, hb⟩ := h.at_ i v e
  exact ⟨r, a, b, rfl, k b _ (ad b (List.mem_of_getElem? e)) hb⟩⟩
theorem OrdAt.but {C p r : Addr} {H H' : Hp} {E : List Ent} (h : OrdAt C H p E) (g : Pt H r) (b : But r H H') : OrdAt C H' p E := by
  obtain ⟨dx, t, xs, h1, h2, h3⟩ := h.ex
  obtain ⟨x, y, kk, _⟩ := id g
  refine ⟨dx, t, xs, b _ _ (fun z => ?_) h1, b _ _ (fun z => ?_) h2, h3.mono (but_tup g b)⟩
  · rw [z, kk] at h1
    cases h1
  · rw [z, kk] at h2
    cases h2
theorem weaks_ne {n : Nat} : 0 < (weaks n none).length := by
  have z := mem_none (n := n) (L := List.replicate n (.inl 0)) (.inl fun k hk => ⟨0, (List.mem_replicate.mp hk).2⟩) (List.length_replicate ..)
  exact List.length_pos_of_mem z
theorem ints_keys (c : List Int) : c.map PyData.int = (ksI c).map dK := by
  unfold ksI
  rw [List.map_map]
  rfl
theorem ksI_ok (c : List Int) : ∀ k ∈ ksI c, KOk false k := fun k hk => by
  obtain ⟨x, _, rfl⟩ := ksI_is hk
  exact ⟨x, rfl⟩
theorem five_nd : five.Nodup := by decide +kernel
theorem el_rank {i : Int} (h : 0 ≤ i ∧ i < 4) : El (.int i) := by
  have e : i = 0 ∨ i = 1 ∨ i = 2 ∨ i = 3 := by omega
  rcases e with rfl | rfl | rfl | rfl
  · exact el_dec (by decide +kernel)
  · exact el_dec (by decide +kernel)
  · exact el_dec (by decide +kernel)
  · exact el_dec (by decide +kernel)
theorem weak_small {n : Nat} {c : List Int} (h : c ∈ weaks n none) (n4 : n ≤ 4) : (∀ i ∈ c, 0 ≤ i ∧ i < 4) ∧ c.length = n := by
  obtain ⟨h1, _⟩ := List.mem_filter.mp h
  refine ⟨fun i hi => ?_, combo_each (rg n) n c h1⟩
  have sub : ∀ m, ∀ c ∈ combos (rg n) m, ∀ i ∈ c, i ∈ rg n := fun m => by
    induction m with
    | zero =>
      intro c hc i hi
      rw [List.mem_singleton.mp hc] at hi
      cases hi
    | succ m ih =>
      intro c hc i hi
      obtain ⟨b, hb, hc⟩ := List.mem_flatMap.mp hc
      obtain ⟨x, hx, rfl⟩ := List.mem_map.mp hc
      rcases List.mem_append.mp hi with hi | hi
      · exact ih b hb i hi
      · rw [List.mem_singleton.mp hi]
        exact hx
  have z := mem_rg.mp (sub n c h1 i hi)
  omega
theorem weak_fine {n : Nat} {c : List Int} (h : c ∈ weaks n none) (n4 : n ≤ 4) : Fine (.tuple (c.map PyData.int)) := by
  obtain ⟨h1, h2⟩ := weak_small h n4
  refine fine_tuple (by rw [List.length_map]; omega) fun d hd => ?_
  obtain ⟨i, hi, rfl⟩ := List.mem_map.mp hd
  exact el_rank (h1 i hi)
section
variable {P : Program} {w : World} {K : PySem.W.Frag} {mg : Str → Option Value} {base : Heap}
def spRight : Sp := fun vs H Q _ => ∃ r : Addr, vs = [.ref r] ∧ Pt H r ∧ ∀ H', Pt H' r → But r H H' → Q (.bl true) H'
theorem ok_right {C f f1 f2 f3 f4 f5 f6 f7 f8 fI : Addr} {fd d1 d2 d3 d4 d5 d6 d7 d8 dI : FuncData} {dvs : List V} {kws : List (Str × V)} {ds1 : List Value} (F : Fun K "_law_right" "_law_right" s__law_right f fd) (T : Blt mg) (O : OrdC K mg C)
    (F__law_draw : Fun K "_law_draw" "_law_draw" s__law_draw f1 d1) (b__law_draw : Binds K d1 ["_law_pot_here", "_law_many"] []) (g__law_draw : mg "_law_draw" = some (.ref f1)) (G__law_draw : FnOk P w K mg base CX0 1 f1 d1 ["_law_pot_here", "_law_many"] spDraw)
    (F__law_value : Fun K "_law_value" "_law_value" s__law_value f2 d2) (b__law_value : Binds K d2 ["_law_pot_here", "_law_is_text"] []) (g__law_value : mg "_law_value" = some (.ref f2)) (G__law_value : FnOk P w K mg base CX0 2 f2 d2 ["_law_pot_here", "_law_is_text"] spValue)
    (M_Order : Mk K C fI) (b_Order___init__ : Binds K dI ["self", "entries"] []) (G_Order___init__ : FnOk P w K mg base CX0 5 fI dI ["self", "entries"] (spOInit C))
    (F__law_columns_right : Fun K "_law_columns_right" "_law_columns_right" s__law_columns_right f3 d3) (b__law_columns_right : Binds K d3 ["_law_rows", "_law_many"] []) (g__law_columns_right : mg "_law_columns_right" = some (.ref f3)) (G__law_columns_right : FnG P w K mg base CX0 8 f3 d3 ["_law_rows", "_law_many"] spCols)
    (F__law_vectors_right : Fun K "_law_vectors_right" "_law_vectors_right" s__law_vectors_right f4 d4) (b__law_vectors_right : Binds K d4 ["_law_names", "_law_entries_here", "_law_order", "_law_rows"] []) (g__law_vectors_right : mg "_law_vectors_right" = some (.ref f4)) (G__law_vectors_right : FnG P w K mg base CX0 5 f4 d4 ["_law_names", "_law_entries_here", "_law_order", "_law_rows"] (spVecs C))
    (F__law_fit_right : Fun K "_law_fit_right" "_law_fit_right" s__law_fit_right f5 d5) (b__law_fit_right : Binds K d5 ["_law_pot_here", "_law_names", "_law_order", "_law_rows"] []) (g__law_fit_right : mg "_law_fit_right" = some (.ref f5)) (G__law_fit_right : FnG P w K mg base CX0 8 f5 d5 ["_law_pot_here", "_law_names", "_law_order", "_law_rows"] (spFitR C))
    (F__law_sorted_right : Fun K "_law_sorted_right" "_law_sorted_right" s__law_sorted_right f6 d6) (b__law_sorted_right : Binds K d6 ["_law_names", "_law_order", "_law_rows"] []) (g__law_sorted_right : mg "_law_sorted_right" = some (.ref f6)) (G__law_sorted_right : FnOk P w K mg base CX0 5 f6 d6 ["_law_names", "_law_order", "_law_rows"] (spSortR C))
    (F_weak_orders : FunD K "weak_orders" "weak_orders" (defArgs s_weak_orders) (defBody s_weak_orders) (defScope s_weak_orders) dvs kws f7 d7) (b1_weak_orders : Binds K d7 ["count", "most"] ds1) (v1_weak_orders : Vals [V.non] ds1) (g_weak_orders : mg "weak_orders" = some (.ref f7)) (G_weak_orders : GFn P w K mg base 4 f7 d7 ["count", "most"] spWO)
    (F_weak_order_of : Fun K "weak_order_of" "weak_order_of" s_weak_order_of f8 d8) (b_weak_order_of : Binds K d8 ["values"] []) (g_weak_order_of : mg "weak_order_of" = some (.ref f8)) (G_weak_order_of : FnOk P w K mg base CX0 3 f8 d8 ["values"] (spWeak K)) :
    FnG P w K mg base CX0 9 f fd ["_law_pot_here"] spRight := by
  have sc := sc__law_right
  refine okG F sc (fun vs H Q E h => ?_) (fun cdv B up s H vs Q E hr gd h => ?_)
  · obtain ⟨r, rfl, _⟩ := h
    rfl
  · obtain ⟨r, rfl, g0, q⟩ := h
    refine ⟨_, (pss_cons (ps_set (i := 1) sc.nd rfl (.inl rfl) (pe_slice sl_list (pe_lst (pa_cons pe_str (pa_cons pe_str (pa_cons pe_str (pa_cons pe_str (pa_cons pe_str pa_nil)))))) po_none (po_some (pe_op op_add pe_int (pe_call G__law_draw (hr.mono (by decide)) (by rfl) g__law_draw F__law_draw.kp b__law_draw .nil pass0 (pa_cons (pv 0) (pa_cons pe_int pa_nil)))))))
      (pss_cons (ps_set (i := 2) sc.nd rfl (.inr rfl) (pe_lc (own := [("_law_name", 10)]) (g := gName 10) (tt := tYes) (by rfl) sc.nd (pi_list (pv 1)) (blkOk_by (own := [("_law_name", 10)]) (N := ["_law_pot_here", "_law_names", "_law_kinds", "_law_rows", "_law_left", "_law_entries_here", "_law_turn", "_law_order", "_law_some", "_law_ranks", "_law_name", "_law_is_text"]) (sc := defScope s__law_right) (by decide +kernel)) (fun _ _ _ _ _ => pg_name (i := 10) sc.nd rfl (Or.inl rfl)) (fun _ _ _ _ _ => pts_nil) (fun _ _ _ _ _ => (pe_cmpR op_eq (pe_call G__law_draw (hr.mono (by decide)) (by rfl) g__law_draw F__law_draw.kp b__law_draw .nil pass0 (pa_cons (pv 0) (pa_cons pe_int pa_nil))) pe_int (nomark _)))))
      (pss_cons (ps_setLc (i := 3) (own := [("_law_turn", 6)]) (g := gName 6) (tt := tYes) (by rfl) sc.nd rfl rfl (sw_true rfl rfl rfl (by decide +kernel)) (pi_range1 (by rfl) T.n_range (pa_cons (pe_op op_add pe_int (pe_call G__law_draw (hr.mono (by decide)) (by rfl) g__law_draw F__law_draw.kp b__law_draw .nil pass0 (pa_cons (pv 0) (pa_cons pe_int pa_nil)))) pa_nil)) (blkOk_by (own := [("_law_turn", 6)]) (N := ["_law_pot_here", "_law_names", "_law_kinds", "_law_rows", "_law_left", "_law_entries_here", "_law_turn", "_law_order", "_law_some", "_law_ranks", "_law_name", "_law_is_text"]) (sc := defScope s__law_right) (by decide +kernel)) (fun _ _ _ _ _ => pg_name (i := 6) sc.nd rfl (Or.inl rfl)) (fun _ _ _ _ _ => pts_nil) (fun _ _ _ _ _ => (pe_lc (own := [("_law_is_text", 11)]) (g := gName 11) (tt := tYes) (by rfl) sc.nd (show PI _ _ _ (iList K _) from (pi_list (pv 2))) (blkOk_by (own := [("_law_is_text", 11)]) (N := ["_law_pot_here", "_law_names", "_law_kinds", "_law_rows", "_law_left", "_law_entries_here", "_law_turn", "_law_order", "_law_some", "_law_ranks", "_law_name", "_law_is_text"]) (sc := _) (by kernel_rfl)) (fun _ _ _ _ _ => pg_name (i := 11) sc.nd rfl (Or.inl rfl)) (fun _ _ _ _ _ => pts_nil) (fun _ _ _ _ _ => (pe_call G__law_value (hr.mono (by decide)) (by rfl) g__law_value F__law_value.kp b__law_value .nil pass0 (pa_cons (pv 0) (pa_cons (pv 11) pa_nil)))))))
      (pss_cons (ps_par (i := 4) (j := 5) (by rfl) sc.nd rfl rfl (by decide) rfl rfl (pa_cons (pe_callTy call_list_of (by rfl) T.n_list (by decide +kernel) (pa_cons (pv 1) pa_nil)) (pa_cons (pe_lst pa_nil) pa_nil)) (by rfl))
      (pss_cons (ps_for PassesOwn.never (by rfl) (pi_range1 (by rfl) T.n_range (pa_cons (pe_call G__law_draw (hr.mono (by decide)) (by rfl) g__law_draw F__law_draw.kp b__law_draw .nil pass0 (pa_cons (pv 0) (pa_cons (pe_op op_add (pe_callB call_len_seq (by rfl) T.n_len PySem.boot_len (pa_cons (pv 1) pa_nil)) pe_int) pa_nil))) pa_nil)) (pg_name (i := 6) sc.nd rfl (.inl rfl)) (pss_one (ps_expr (pe_bm PySem.F.plainAttrs_list PySem.F.slot_list_append PySem.F.type_list_append mt_append (pv 5) (pa_cons (pe_tup (pa_cons (pe_bm PySem.F.plainAttrs_list PySem.F.slot_list_pop PySem.F.type_list_pop mt_popAt (pv 4) (pa_cons (pe_call G__law_draw (hr.mono (by decide)) (by rfl) g__law_draw F__law_draw.kp b__law_draw .nil pass0 (pa_cons (pv 0) (pa_cons (pe_callB call_len_seq (by rfl) T.n_len PySem.boot_len (pa_cons (pv 4) pa_nil)) pa_nil))) pa_nil)) (pa_cons (pe_ix ix_list (pe_lst (pa_cons pe_str (pa_cons pe_str pa_nil))) (pe_call G__law_draw (hr.mono (by decide)) (by rfl) g__law_draw F__law_draw.kp b__law_draw .nil pass0 (pa_cons (pv 0) (pa_cons pe_int pa_nil))) (fun _ _ => rfl)) pa_nil))) pa_nil)))))
      (pss_cons (ps_set (i := 7) sc.nd rfl (.inl rfl) (pe_make M_Order G_Order___init__ (hr.mono (by decide)) (by rfl) O.glob b_Order___init__ .nil pass0 (pa_cons (pv 5) pa_nil)))
      (pss_cons (ps_if (PW.pt (pw_or (pt_not (pt_val (pe_callG G__law_columns_right (hr.mono (by decide)) gd (by rfl) g__law_columns_right F__law_columns_right.kp b__law_columns_right .nil pass0 (pa_cons (pv 3) (pa_cons (pe_callB call_len_seq (by rfl) T.n_len PySem.boot_len (pa_cons (pv 1) pa_nil)) pa_nil))))) (pw_or1 (pt_not (pt_val (pe_callG G__law_vectors_right (hr.mono (by decide)) gd (by rfl) g__law_vectors_right F__law_vectors_right.kp b__law_vectors_right .nil pass0 (pa_cons (pv 1) (pa_cons (pv 5) (pa_cons (pv 7) (pa_cons (pv 3) pa_nil)))))))))) (pss_one (ps_ret pe_bl)) pss_nil)
      (pss_cons (ps_if (PW.pt (pw_or (pt_not (pt_val (pe_callG G__law_fit_right (hr.mono (by decide)) gd (by rfl) g__law_fit_right F__law_fit_right.kp b__law_fit_right .nil pass0 (pa_cons (pv 0) (pa_cons (pv 1) (pa_cons (pv 7) (pa_cons (pv 3) pa_nil))))))) (pw_or1 (pt_not (pt_val (pe_call G__law_sorted_right (hr.mono (by decide)) (by rfl) g__law_sorted_right F__law_sorted_right.kp b__law_sorted_right .nil pass0 (pa_cons (pv 1) (pa_cons (pv 7) (pa_cons (pv 3) pa_nil))))))))) (pss_one (ps_ret pe_bl)) pss_nil)
      (pss_cons (ps_set (i := 8) sc.nd rfl (.inl rfl) (pe_listG (pgen_call G_weak_orders (hr.mono (by decide)) (by rfl) g_weak_orders F_weak_orders.kp b1_weak_orders v1_weak_orders (pa_cons (pe_callB call_len_seq (by rfl) T.n_len PySem.boot_len (pa_cons (pv 3) pa_nil)) pa_nil)) PSY.passG0 PSY.nostop0 (hr.mono (by decide)) (by rfl) T.n_list (by decide +kernel)))
      (pss_cons (ps_set (i := 9) sc.nd rfl (.inl rfl) (pe_ix ix_list (pv 8) (pe_call G__law_draw (hr.mono (by decide)) (by rfl) g__law_draw F__law_draw.kp b__law_draw .nil pass0 (pa_cons (pv 0) (pa_cons (pe_callB call_len_seq (by rfl) T.n_len PySem.boot_len (pa_cons (pv 8) pa_nil)) pa_nil))) (fun _ _ => rfl)))
      (pss_one (ps_ret (pe_cmpR op_eq (pe_callB (call_reprH (by have z := room_units hr; exact z) gd) (by rfl) T.n_repr (by decide +kernel) (pa_cons (pe_call G_weak_order_of (hr.mono (by decide)) (by rfl) g_weak_order_of F_weak_order_of.kp b_weak_order_of .nil pass0 (pa_cons (pe_callTy call_list_of (by rfl) T.n_list (by decide +kernel) (pa_cons (pv 9) pa_nil)) pa_nil)) pa_nil)) (pe_callB (call_reprH (by have z := room_units hr; exact z) gd) (by rfl) T.n_repr (by decide +kernel) (pa_cons (pv 9) pa_nil)) (nomark _)))))))))))))), ?_⟩
    have two200 : (2 : Int) ^ 200 = 1606938044258990275541962092341162602522202993782792835301376 := by decide +kernel
    refine ⟨(by show 5 ≤ sizeLine; decide), fun p0 hp0 => ?_⟩
    have n0 := g0.off hp0
    refine ⟨_, rfl, r, 5, rfl, g0.new hp0, by decide, by decide, fun n G1 n0' n1 g1 b1 => ?_⟩
    have a1 : G1 p0 = some (.lst (five.map V.str)) := b1 _ _ n0 upd_same
    have k1 : But r H G1 := (But.of (same_new hp0)).trans b1
    obtain ⟨k, rfl⟩ := Int.eq_ofNat_of_zero_le n0'
    refine ⟨_, _, rfl, rfl, _, rfl, p0, _, rfl, SqL.of a1, fun pN hpN => ?_⟩
    have nN := g1.off hpN
    rw [show (1 : Int) + (k : Int) = ((k + 1 : Nat) : Int) from by omega, cut_to, ← List.map_take]
    have hN : upd G1 pN (.lst ((five.take (k + 1)).map V.str)) pN = some (.lst ((five.take (k + 1)).map V.str)) := upd_same
    have g2 := g1.new hpN (o := .lst ((five.take (k + 1)).map V.str))
    have k2 : But r H (upd G1 pN (.lst ((five.take (k + 1)).map V.str))) := k1.trans (But.of (same_new hpN))
    have lN : (five.take (k + 1)).length = k + 1 := by
      rw [List.length_take]
      show min (k + 1) 5 = k + 1
      omega
    have nd : (five.take (k + 1)).Nodup := five_nd.sublist (List.take_sublist _ _)
    have col : ∀ x ∈ five.take (k + 1), Col x := fun x hx => five_col x (List.mem_of_mem_take hx)
    generalize five.take (k + 1) = N at hN g2 k2 lN nd col ⊢
    generalize upd G1 pN (.lst (N.map V.str)) = G2 at hN g2 k2 ⊢
    clear a1 k1 b1 g1 hpN
    refine ⟨_, rfl, pN, rfl, ⟨_, SqL.of hN⟩, fun D hD => ?_⟩
    have lNs : (N.map V.str).length = N.length := List.length_map ..
    have nD := g2.off hD
    refine w_list (xs := N.map V.str) (fun i G => Pt G r ∧ But r G2 G ∧ ∃ ks : List Bool, G D = some (.lst (ks.map V.bl)) ∧ ks.length = i) ⟨g2.new hD, But.of (same_new hD), [], upd_same, rfl⟩ (fun i G _ z => SqL.of (z.2.1 _ _ nN hN)) ?_ ?_
    · rintro i x G hx ⟨gG, bG, ks, aD, lk⟩
      have li : i < N.length := by
        have := (List.getElem?_eq_some_iff.mp hx).1
        omega
      refine ⟨rfl, _, rfl, r, 3, rfl, gG, by decide, by decide, fun d G3 d0 d1 g3 b3 => ?_⟩
      have aD2 := b3 _ _ nD aD
      refine ⟨rfl, _, aD2, by rw [List.length_map, sizeLine_eq]; omega, g3.put nD, fun b o n e => (upd_ne (ne_of_none e hD)).trans (b3 _ _ n (bG b o n e)), ks ++ [decide (V.int d = V.int 0)], ?_, by rw [List.length_append, lk]; rfl⟩
      rw [upd_same, List.map_append]
      rfl
    rintro G3 ⟨g3, b3, ts, aD, lk⟩
    rw [lNs] at lk
    have hN3 := b3 _ _ nN hN
    have k3 := k2.trans b3
    refine ⟨_, rfl, r, 2, rfl, g3, by decide, by decide, fun n G4 n0 n1 g4 b4 => ⟨_, _, rfl, rfl, _, rfl, by omega, by omega, fun DR hDR => ?_⟩⟩
    have nDR := g4.off hDR
    have aD4 := b4 _ _ nD aD
    refine w_range (lo := 0) (n := (3 + n).toNat) (fun i G => Pt G r ∧ (∀ b o, b ≠ r → b ≠ DR → G4 b = some o → G b = some o) ∧ ∃ us R, G DR = some (.lst us) ∧ RowsAt G us R ∧ (∀ b, V.ref b ∈ us → b ≠ r ∧ b ≠ DR) ∧ R.length = i ∧ ∀ rr ∈ R, RowOk ts rr)
      ⟨g4.new hDR, fun b o _ nb e => (upd_ne nb).trans e, [], [], upd_same, ⟨rfl, fun i v e => by simp at e⟩, (fun b h => nomatch h), rfl, fun rr h => nomatch h⟩ ?_ ?_
    · rintro i G hi ⟨gG, bG, us, R, aDR, rows, ad, lR, okR⟩
      have nDD : D ≠ DR := ne_of_none aD4 hDR
      have aDG := bG _ _ nD nDD aD4
      refine ⟨rfl, _, rfl, D, rfl, ⟨_, SqL.of aDG⟩, fun D3 hD3 => ?_⟩
      have nD3 := gG.off hD3
      have lts : (ts.map V.bl).length = ts.length := List.length_map ..
      refine w_list (xs := ts.map V.bl) (fun j G' => Pt G' r ∧ (∀ b o, b ≠ r → b ≠ D3 → G b = some o → G' b = some o) ∧ ∃ row : List Key, G' D3 = some (.lst (row.map kV)) ∧ row.length = j ∧ ∀ (m : Nat) t k, ts[m]? = some t → row[m]? = some k → KOk t k)
        ⟨gG.new hD3, fun b o _ nb e => (upd_ne nb).trans e, [], upd_same, rfl, fun m t k _ e => by simp at e⟩ (fun j G' _ z => SqL.of (z.2.1 _ _ nD (ne_of_none aDG hD3) aDG)) ?_ ?_
      · rintro j x G' hx ⟨gG', bG', row, aD3, lrow, okr⟩
        rw [List.getElem?_map] at hx
        cases ht : ts[j]? with
        | none => rw [ht] at hx; cases hx
        | some t =>
          rw [ht] at hx
          cases hx
          have jl := (List.getElem?_eq_some_iff.mp ht).1
          refine ⟨rfl, _, rfl, _, rfl, r, t, rfl, gG', fun v G5 va g5 b5 => ?_⟩
          obtain ⟨kk, rfl, ok⟩ := va_k va
          refine ⟨_, b5 _ _ nD3 aD3, ?_, g5.put nD3, fun b o n1 n2 e => (upd_ne n2).trans (b5 _ _ n1 (bG' _ _ n1 n2 e)), row ++ [kk], ?_, by rw [List.length_append, lrow]; rfl, fun m t2 k2 h1 h2 => ?_⟩
          · rw [List.length_map, sizeLine_eq]
            omega
          · rw [upd_same, List.map_append]
            rfl
          · by_cases lt : m < row.length
            · rw [List.getElem?_append_left lt] at h2
              exact okr m t2 k2 h1 h2
            · rw [List.getElem?_append_right (by omega)] at h2
              have m0 : m = row.length := by
                have z := (List.getElem?_eq_some_iff.mp h2).1
                simp only [List.length_cons, List.length_nil] at z
                omega
              rw [m0, lrow, ht] at h1
              rw [m0, Nat.sub_self] at h2
              cases h1
              cases h2
              exact ok
      · rintro G' ⟨gG', bG', row, aD3, lrow, okr⟩
        have nRD : DR ≠ D3 := ne_of_none aDR hD3
        have aDR' := bG' _ _ nDR nRD aDR
        have lus := rows.len
        refine ⟨us, aDR', by rw [sizeLine_eq]; omega, gG'.put nDR, fun b o n1 n2 e => (upd_ne n2).trans (bG' _ _ n1 (ne_of_none (bG _ _ n1 n2 e) hD3) (bG _ _ n1 n2 e)), us ++ [.ref D3], R ++ [row], upd_same, ?_, fun b hb => ?_, by rw [List.length_append, lR]; rfl, fun rr hrr => ?_⟩
        · refine RowsAt.push (rows.keep (p := fun b => b ≠ r ∧ b ≠ DR) ad fun b o hp e => (upd_ne hp.2).trans (bG' _ _ hp.1 (ne_of_none e hD3) e)) ⟨D3, rfl, (upd_ne (Ne.symm nRD)).trans aD3⟩
        · rcases List.mem_append.mp hb with hb | hb
          · exact ad b hb
          · cases List.mem_singleton.mp hb
            exact ⟨nD3, Ne.symm nRD⟩
        · rcases List.mem_append.mp hrr with hrr | hrr
          · exact okR rr hrr
          · rw [List.mem_singleton.mp hrr]
            exact ⟨by omega, okr⟩
    rintro G5 ⟨g5, b5, us, R, aDR, rows, ad, lR, okR⟩
    have hN4 := b4 _ _ nN hN3
    have hN5 := b5 _ _ nN (ne_of_none hN4 hDR) hN4
    have k5 : But r H G5 := fun b o n e => b5 b o n (ne_of_none (b4 _ _ n (k3 _ _ n e)) hDR) (b4 _ _ n (k3 _ _ n e))
    clear b5 b4 k3 hN3 hN4 b3 hN aD4 aD k2
    have l34 : 3 ≤ R.length ∧ R.length ≤ 4 := by omega
    have hl : N.length ≤ 5 := by omega
    have hl2 : (N.map V.str).length = N.length := List.length_map ..
    refine ⟨_, rfl, pN, _, rfl, .inl (SqL.of hN5), fun L0 hL0 => ⟨Nat.zero_le _, fun M hM => ⟨_, _, rfl, ?_⟩⟩⟩
    have nLr := g5.off hL0
    have nMr := (g5.new hL0 (o := .lst (N.map V.str))).off hM
    have nML : M ≠ L0 := fun z => by
      rw [z, upd_same] at hM
      cases hM
    have hM0 : G5 M = none := by rwa [upd_ne nML] at hM
    have hNM : upd (upd G5 L0 (.lst (N.map V.str))) M (.lst []) pN = some (.lst (N.map V.str)) := (upd_ne (ne_of_none hN5 hM0)).trans ((upd_ne (ne_of_none hN5 hL0)).trans hN5)
    refine ⟨_, rfl, _, rfl, pN, _, rfl, .inl (SqL.of hNM), _, _, rfl, rfl, r, _, rfl, (g5.new hL0).new hM, by omega, by rw [two200, List.length_map]; omega, fun n5 G6 m0 m1 g6 b6 => ⟨_, rfl, by omega, by omega, ?_⟩⟩
    have aL6 := b6 _ _ nLr ((upd_ne (Ne.symm nML)).trans upd_same)
    have aM6 := b6 _ _ nMr upd_same
    have kp : ∀ b o, b ≠ r → G5 b = some o → G6 b = some o := fun b o n2 e => b6 b o n2 ((upd_ne (ne_of_none e hM0)).trans ((upd_ne (ne_of_none e hL0)).trans e))
    refine for_range (lo := 0) (n := n5.toNat) (fun j σ G => ∃ y6, σ = [some (.ref r), some (.ref pN), some (.ref D), some (.ref DR), some (.ref L0), some (.ref M), y6, none, none, none, none, none] ∧ Pt G r ∧ (∀ b o, b ≠ r → G5 b = some o → G b = some o) ∧ ∃ (L : List Str) (xs : List V) (E : List Ent), G L0 = some (.lst (L.map V.str)) ∧ G M = some (.lst xs) ∧ EntsAt G xs E ∧ E.length = j ∧ (L ++ E.map (·.1)).Perm N)
      ⟨_, rfl, g6, kp, N, [], [], aL6, aM6, trivial, rfl, by rw [List.map_nil, List.append_nil]⟩ ?_ ?_
    · rintro j σ G hj ⟨y6, rfl, gR, keep, L, xs, E, aD, aM, eA, lE, pm⟩
      have lL : L.length + E.length = N.length := by
        have := pm.length_eq
        rw [List.length_append, List.length_map] at this
        exact this
      have lL2 : (L.map V.str).length = L.length := List.length_map _
      refine ⟨_, rfl, .inl ⟨rfl, _, SqL.of aM⟩, _, rfl, .inl ⟨rfl, _, SqL.of aD⟩, _, rfl, _, rfl, L0, _, rfl, .inl (SqL.of aD), r, _, rfl, gR, by omega, by rw [two200]; omega, fun c H2 c0 c1 g2 b2 => ?_⟩
      obtain ⟨k, rfl⟩ := Int.eq_ofNat_of_zero_le c0
      have lt : k < L.length := by omega
      have aD2 := b2 _ _ nLr aD
      have aM2 := b2 _ _ nMr aM
      have eA2 := eA.mono (but_tup gR b2)
      have sx : seqIndex? (k : Int) (L.map V.str).length = some k := by
        unfold seqIndex?
        have n0 : ¬ (k : Int) < 0 := by omega
        rw [lL2]
        simp only [if_neg n0]
        rw [if_pos (by simp; omega)]
        rfl
      refine ⟨L0, _, _, k, _, rfl, rfl, aD2, by omega, by omega, sx, (by rw [List.getElem?_map, List.getElem?_eq_getElem lt]; rfl), ?_⟩
      refine ⟨(by show 2 ≤ sizeLine; decide), fun p hp => ?_⟩
      refine ⟨_, rfl, r, 2, rfl, (g2.put nLr (o := .lst ((L.map V.str).eraseIdx k))).new hp, by decide, by decide, fun d H3 d0 d1 g4 b4 => ?_⟩
      have npr := (g2.put nLr (o := .lst ((L.map V.str).eraseIdx k))).off hp
      have kD : ∀ b o, b ≠ r → G5 b = some o → H3 b = some o := fun b o n2 e => b4 b o n2 ((upd_ne (ne_of_none ((upd_ne (ne_of_none e hL0)).trans (b2 b o n2 (keep b o n2 e))) hp)).trans ((upd_ne (ne_of_none e hL0)).trans (b2 b o n2 (keep b o n2 e))))
      have nMp : M ≠ p := ne_of_none ((upd_ne nML).trans aM2) hp
      have aM3 : H3 M = some (.lst xs) := b4 _ _ nMr ((upd_ne nMp).trans ((upd_ne nML).trans aM2))
      have nDp : L0 ≠ p := ne_of_none upd_same hp
      have aD3 : H3 L0 = some (.lst ((L.map V.str).eraseIdx k)) := b4 _ _ nLr ((upd_ne nDp).trans upd_same)
      have aP3 := b4 _ _ npr upd_same
      have eA3 : EntsAt H3 xs E := eA2.mono fun c ys e => b4 c _ (fun z => by
        obtain ⟨x, y, kk, _⟩ := g2
        rw [z, kk] at e
        cases e) (by
          have ncD : c ≠ L0 := fun z => by
            rw [z, aD2] at e
            cases e
          have e2 := (upd_ne ncD (o := .lst ((L.map V.str).eraseIdx k))).trans e
          exact (upd_ne (ne_of_none e2 hp)).trans e2)
      have d2 : d = 0 ∨ d = 1 := by omega
      have ixd : atI ([.str "up", .str "down"] : List V) d = some (.str (wy (decide (d = 1)))) := by
        rcases d2 with rfl | rfl <;> rfl
      refine ⟨_, _, _, _, rfl, rfl, SqL.of aP3, ixd, ?_⟩
      refine ⟨(by show 2 ≤ sizeLine; decide), fun t ht => ?_⟩
      have ntM : M ≠ t := ne_of_none aM3 ht
      refine ⟨M, xs, _, rfl, rfl, (upd_ne ntM).trans aM3, by rw [eA3.len, sizeLine_eq]; omega, ?_⟩
      refine ⟨_, rfl, (g4.new ht).put nMr, fun b o n2 e => (upd_ne (ne_of_none e hM0)).trans ((upd_ne (ne_of_none (kD b o n2 e) ht)).trans (kD b o n2 e)), L.eraseIdx k, xs ++ [.ref t], E ++ [(L[k], decide (d = 1))], ?_, upd_same, ?_, by rw [List.length_append, lE]; rfl, ?_⟩
      · rw [upd_ne nML.symm, upd_ne (ne_of_none aD3 ht), aD3, erase_map]
      · have mono : ∀ c ys, H3 c = some (.tup ys) → (upd (upd H3 t (.tup [.str L[k], .str (wy (decide (d = 1)))])) M (.lst (xs ++ [.ref t]))) c = some (.tup ys) := fun c ys e => by
          have ncM : c ≠ M := fun z => by
            rw [z, aM3] at e
            cases e
          exact (upd_ne ncM).trans ((upd_ne (ne_of_none e ht)).trans e)
        exact (eA3.mono mono).app ⟨⟨t, rfl, (upd_ne ntM.symm).trans upd_same⟩, trivial⟩
      · rw [List.map_append]
        have h1 : (L[k] :: L.eraseIdx k).Perm L := erase_perm L k lt
        have h2 : (L.eraseIdx k ++ (E.map (·.1) ++ [L[k]])).Perm (L[k] :: L.eraseIdx k ++ E.map (·.1)) := by
          rw [← List.append_assoc]
          exact List.perm_append_comm (l₁ := L.eraseIdx k ++ E.map (·.1)) (l₂ := [L[k]])
        exact h2.trans ((h1.append_right _).trans pm)
    rintro σ G ⟨y6, rfl, gR, keep, L, xs, E, aD, aM, eA, lE, pm⟩
    have inN : ∀ en ∈ E, en.1 ∈ N := fun en he => pm.subset (List.mem_append_right _ (List.mem_map_of_mem he))
    have eok : EOk E := by
      refine ⟨fun e he => col _ (inN e he), ?_, ?_⟩
      · exact (List.nodup_append.mp (pm.nodup_iff.mpr nd)).2.1
      · have := pm.length_eq
        rw [List.length_append, List.length_map] at this
        omega
    have rowsG : RowsAt G us R := rows.keep (p := fun b => b ≠ r ∧ b ≠ DR) ad fun b o hp e => keep _ _ hp.1 e
    have aDRG := keep _ _ nDR aDR
    have hNG := keep _ _ nN hN5
    have kG : But r H G := k5.trans keep
    have tab : Tab ts R := ⟨okR, by omega⟩
    clear rows aDR hN5 k5 keep aL6 aM6 kp
    refine ⟨_, rfl, fun x1 dx1 nx1 nd1 ne1 => ⟨x1, dx1, .ref M, E, rfl, upd_same, .inl ((SeqE.mk (.inl aM) eA).same (same_make (C := C) nx1 nd1)), eok, fun H6 hO keep1 => ⟨rfl, ?_⟩⟩⟩
    have s6 : Same G H6 := fun b o e => keep1 b o (ne_of_none e nx1) (same_make (C := C) nx1 nd1 _ _ e)
    clear keep1
    have hN6 := s6 _ _ hNG
    have aDR6 := s6 _ _ aDRG
    have aM6 := s6 _ _ aM
    have rows6 := rowsG.same s6
    have e6 := eA.mono (H' := H6) fun _ _ z => s6 _ _ z
    refine ⟨_, rfl, _, rfl, pN, _, rfl, .inl (SqL.of hN6), DR, us, R, ts, by rw [hl2, ← lk]; rfl, aDR6, rows6, tab, by omega, l34.2, fun H7 s7 => ⟨_, rfl, iteF ?_⟩⟩
    have hN7 := s7 _ _ hN6
    have aDR7 := s7 _ _ aDR6
    refine ⟨_, rfl, _, rfl, _, rfl, _, rfl, pN, M, x1, DR, N, E, xs, us, R, ts, rfl, hN7, s7 _ _ aM6, e6.mono (fun _ _ z => s7 _ _ z), hO.same s7, aDR7, rows6.same s7, tab, lk.symm, nd, inN, fun H8 s8 => ⟨_, rfl, iteF ?_⟩⟩
    have s78 := s7.trans s8
    have hN8 := s8 _ _ hN7
    have aDR8 := s8 _ _ aDR7
    have rows8 := rows6.same s78
    have hO8 := hO.same s78
    have g8 : Pt H8 r := gR.same (s6.trans s78)
    refine ⟨_, rfl, _, rfl, _, rfl, _, rfl, r, pN, x1, DR, N, E, us, R, ts, rfl, g8, hN8, hO8, aDR8, rows8, tab, l34.1, lk.symm, nd, inN, fun H9 g9 b9 => ⟨_, rfl, iteF ?_⟩⟩
    have hN9 := b9 _ _ nN hN8
    have aDR9 := b9 _ _ nDR aDR8
    have rows9 : RowsAt H9 us R := rows8.keep (p := fun b => b ≠ r ∧ b ≠ DR) ad fun b o hp e => b9 _ _ hp.1 e
    have hO9 := hO8.but g8 b9
    refine ⟨_, rfl, _, rfl, _, rfl, pN, x1, DR, N, E, us, R, ts, rfl, hN9, hO9, aDR9, rows9, tab, l34.2, lk.symm, nd, inN, fun H10 s10 => ⟨_, rfl, iteF ?_⟩⟩
    have g10 := g9.same s10
    have aDR10 := s10 _ _ aDR9
    have lus := rows9.len
    have kH10 : But r H H10 := (kG.trans (But.of (s6.trans s78))).trans (b9.trans (But.of s10))
    refine ⟨_, rfl, DR, _, rfl, .inl (SqL.of aDR10), R.length, none, by rw [lus]; rfl, l34.2, fun ws H11 s11 tw q11 hq11 => ?_⟩
    have s12 := s11.trans (same_new (o := .lst ws) hq11)
    have tw := tw.mono (same_new (o := .lst ws) hq11)
    have a12 : upd H11 q11 (.lst ws) q11 = some (.lst ws) := upd_same
    generalize upd H11 q11 (.lst ws) = H12 at s12 tw a12 ⊢
    have g12 := g10.same s12
    have lw := tw.len
    have pos := weaks_ne (n := R.length)
    have n12 : q11 ≠ r := (g10.same s11).off hq11
    have big : (weaks R.length none).length ≤ 256 := by
      have z := List.length_filter_le (good none) (combos (rg R.length) R.length)
      have z2 := combos_len (rg R.length) R.length
      have z3 := pow4 (a := (rg R.length).length) (m := R.length) (by rw [rg_len]; exact l34.2) l34.2
      have z4 : (weaks R.length none).length = ((combos (rg R.length) R.length).filter (good none)).length := rfl
      omega
    refine ⟨_, rfl, _, rfl, _, rfl, q11, _, rfl, .inl (SqL.of a12), r, _, rfl, g12, by omega, by rw [two200]; omega, fun d H13 d0 d1 g13 b13 => ?_⟩
    obtain ⟨k, rfl⟩ := Int.eq_ofNat_of_zero_le d0
    have kl : k < ws.length := by omega
    have hk : ws[k]? = some ws[k] := List.getElem?_eq_getElem kl
    obtain ⟨c, hc, p, ep, hp⟩ := tw.at hk
    have mc := List.mem_of_getElem? hc
    obtain ⟨again, lc⟩ := ranks_weak mc
    have fine := weak_fine mc l34.2
    have npr : p ≠ r := fun z => by
      obtain ⟨x, y, e, _⟩ := g12
      rw [z, e] at hp
      cases hp
    have hp13 := b13 _ _ npr hp
    have a13 := b13 _ _ n12 a12
    rw [ep] at hk
    refine ⟨q11, _, _, _, rfl, rfl, SqL.of a13, atI_nat hk, ?_⟩
    refine ⟨_, rfl, p, _, rfl, .inr (SqT.of hp13), fun l hl => ?_⟩
    have s14 := same_new (o := .lst (c.map V.int)) hl
    have a14 : upd H13 l (.lst (c.map V.int)) l = some (.lst (c.map V.int)) := upd_same
    generalize upd H13 l (.lst (c.map V.int)) = H14 at s14 a14 ⊢
    have okc := ksI_ok c
    refine ⟨l, c.map V.int, (ksI c).map dK, rfl, .inl (SqL.of a14), by rw [← ints_keys]; exact ints_dt c, (fun d hd => by
      obtain ⟨k0, hk0, rfl⟩ := List.mem_map.mp hd
      exact kok_thing (okc k0 hk0)), by rw [List.length_map]; unfold ksI; rw [List.length_map]; omega, (fun d hd => by
      obtain ⟨k0, hk0, rfl⟩ := List.mem_map.mp hd
      exact kok_ne (okc k0 hk0)), kok_uni okc, fun p2 G1 G2 s15 hp2 hG2 => ?_⟩
    rw [ranks_dK, again] at hG2
    have aP2 : G2 p2 = some (.tup (c.map V.int)) := by rw [hG2]; exact upd_same
    have s16 : Same H14 G2 := by rw [hG2]; exact s15.trans (same_new hp2)
    clear hG2
    dsimp only [tNil]
    refine rep_thing (.tup aP2 (ints_dt c)) fine ?_
    refine ⟨_, rfl, ?_⟩
    dsimp only [tNil]
    refine rep_thing (.tup ((s14.trans s16) _ _ hp13) (ints_dt c)) fine ?_
    have s17 := s14.trans s16
    have q' := q G2 (g13.same s17) (((kH10.trans (But.of s12)).trans b13).trans (But.of s17))
    refine ⟨rfl, ?_⟩
    rw [decide_eq_true rfl]
    exact q'
end
end K19

set_option Elab.async false
set_option linter.all false
set_option maxRecDepth 100000
set_option maxHeartbeats 8000000
namespace K19
open PySem PySem.Spec L2 PSG PSS
open PyProof.Rows (IntsAre AllBare)
abbrev s_law : Stmt := topS 62
theorem sc_law : FnScope ["_law_script", "_law_k"] ["_law_script"] (defScope s_law) := ⟨rfl, rfl, rfl, by decide +kernel, rfl, by decide +kernel, by decide +kernel⟩
section
variable {P : Program} {w : World} {K : PySem.W.Frag} {mg : Str → Option Value} {base : Heap}
def spLaw (K : PySem.W.Frag) : Sp := fun vs H Q _ => ∃ (a : Addr) (ns : List Int), vs = [.ref a] ∧ SqL K H a (ns.map V.int) ∧ ns.length ≤ 63 ∧ ∀ H', Q (.bl true) H'
theorem ok_law {f fP fR : Addr} {fd dP dR : FuncData} (F : Fun K "law" "law" s_law f fd) (T : Blt mg)
    (F__law_pot : Fun K "_law_pot" "_law_pot" s__law_pot fP dP) (b__law_pot : Binds K dP ["_law_script", "_law_k"] []) (g__law_pot : mg "_law_pot" = some (.ref fP))
    (F__law_right : Fun K "_law_right" "_law_right" s__law_right fR dR) (b__law_right : Binds K dR ["_law_pot_here"] []) (g__law_right : mg "_law_right" = some (.ref fR)) (G__law_right : FnG P w K mg base CX0 9 fR dR ["_law_pot_here"] spRight) :
    FnG P w K mg base CX0 10 f fd ["_law_script"] (spLaw K) := by
  have sc := sc_law
  have G__law_pot : FnOk P w K mg base CX0 1 fP dP ["_law_script", "_law_k"] (spPot K) := ok_pot F__law_pot T
  refine okG F sc (fun vs H Q E h => ?_) (fun cdv B up s H vs Q E hr gd h => ?_)
  · obtain ⟨a, ns, rfl, _⟩ := h
    rfl
  · obtain ⟨a, ns, rfl, hS, hlen, k⟩ := h
    refine ⟨_, (pss_one (ps_ret (pe_callB (cr_all rfl) (by rfl) T.n_all (by decide +kernel) (pa_cons (pe_lc (own := [("_law_k", 1)]) (g := gName 1) (tt := tYes) (by rfl) sc.nd (pi_range1 (by rfl) T.n_range (pa_cons (pe_callB (call_max2 rfl) (by rfl) T.n_max (by decide +kernel) (pa_cons pe_int (pa_cons (pe_callB (call_min2 rfl) (by rfl) T.n_min (by decide +kernel) (pa_cons pe_int (pa_cons (pe_callB call_len_seq (by rfl) T.n_len PySem.boot_len (pa_cons (pv 0) pa_nil)) pa_nil))) pa_nil))) pa_nil)) (blkOk_by (own := [("_law_k", 1)]) (N := ["_law_script", "_law_k"]) (sc := defScope s_law) (by decide +kernel)) (fun _ _ _ _ _ => pg_name (i := 1) sc.nd rfl (Or.inl rfl)) (fun _ _ _ _ _ => pts_nil) (fun _ _ _ _ _ => (pe_callG G__law_right (hr.mono (by decide)) gd (by rfl) g__law_right F__law_right.kp b__law_right .nil pass0 (pa_cons (pe_call G__law_pot (hr.mono (by decide)) (by rfl) g__law_pot F__law_pot.kp b__law_pot .nil pass0 (pa_cons (pv 0) (pa_cons (pv 1) pa_nil))) pa_nil)))) pa_nil)))), ?_⟩
    refine ⟨_, rfl, a, _, rfl, .inl hS, _, _, rfl, _, _, rfl, _, rfl, ?_, ?_, fun D hD => w_range (lo := 0) (fun i G => Same H G ∧ G D = some (.lst ((List.replicate i true).map V.bl))) ⟨same_new hD, upd_same⟩ ?_ ?_⟩
    · split <;> split <;> omega
    · split <;> split <;> omega
    · rintro i G hi ⟨s0, aD⟩
      have lt : i ≤ 1000 := by
        have z : (i : Int) < 8 := by
          have z1 : (i : Int) < _ := Int.lt_toNat.mp hi
          refine Int.lt_of_lt_of_le z1 ?_
          split <;> split <;> omega
        omega
      refine ⟨rfl, _, rfl, _, rfl, a, ns, i, (by show [V.ref a, V.int (0 + (i : Int))] = [V.ref a, V.int i]; rw [Int.zero_add]), s0.seq hS, lt, fun r x y hr0 x0 y0 y1 => ?_⟩
      have g1 : Pt (upd G r (.lst [.int x, .int y])) r := ⟨x, y, upd_same, x0, y0, y1⟩
      have nDr : D ≠ r := ne_of_none aD hr0
      refine ⟨r, rfl, g1, fun G' g' b' => ?_⟩
      refine ⟨_, b' _ _ nDr ((upd_ne nDr).trans aD), by rw [List.length_map, List.length_replicate, sizeLine_eq]; omega, fun b o e => ?_, ?_⟩
      · have nb : b ≠ r := fun z => by
          have := s0 _ _ e
          rw [z, hr0] at this
          cases this
        exact (upd_ne (ne_of_none e hD)).trans (b' _ _ nb ((upd_ne nb).trans (s0 _ _ e)))
      · rw [upd_same, List.replicate_succ', List.map_append]
        rfl
    · rintro G ⟨s0, aD⟩
      refine ⟨D, _, rfl, SqL.of aD, ?_⟩
      rw [show ∀ m : Nat, (List.replicate m true).all id = true from fun m => List.all_eq_true.mpr fun x hx => (List.mem_replicate.mp hx).2 ▸ rfl]
      exact k G
end

end K19

set_option Elab.async false
set_option linter.all false
set_option maxRecDepth 100000
set_option maxHeartbeats 8000000
namespace K19
open PySem PySem.Spec L2 PSG PSS
open PyProof.Rows (IntsAre AllBare)
set_option maxHeartbeats 0 in
theorem all_mk {l : PySem.W.OpenLaw} {w : World} {K : PySem.W.Frag} {h : Heap} {mg : Str → Option Value} {fa C TI E0 fI fm_sign fW TW fp_entries qp_entries fd0 fd1 fd2 fd3 fd4 fd5 fd6 fd7 fd8 fd9 fd10 fd11 fd12 fd13 fd14 fd15 fd16 fd17 fd18 fd19 fd20 fd21 fd22 fd23 fd24 fd25 fd26 fd27 fd28 fd29 fd30 fd31 fd32 fd33 fd34 : Addr} (X : K.In h) (G : h.Ns mainGlobals mg) (hfa : mg "law" = some (.ref fa))
    {odI anI odm_sign anm_sign odW anW odp_entries anp_entries odd0 and0 odd1 and1 odd2 and2 odd3 and3 odd4 and4 odd5 and5 odd6 and6 odd7 and7 odd8 and8 odd9 and9 odd10 and10 odd11 and11 odd12 and12 odd13 and13 odd14 and14 odd15 and15 odd16 and16 odd17 and17 odd18 and18 odd19 and19 odd20 and20 odd21 and21 odd22 and22 odd23 and23 odd24 and24 odd25 and25 odd26 and26 odd27 and27 odd28 and28 odd29 and29 odd30 and30 odd31 and31 odd32 and32 odd33 and33 odd34 and34 odT odV : Option Addr} {slI slm_sign slW slp_entries sld0 sld1 sld2 sld3 sld4 sld5 sld6 sld7 sld8 sld9 sld10 sld11 sld12 sld13 sld14 sld15 sld16 sld17 sld18 sld19 sld20 sld21 sld22 sld23 sld24 sld25 sld26 sld27 sld28 sld29 sld30 sld31 sld32 sld33 sld34 slT slV : Array (Option Value)} {ocI kVI dcI pmI cvI ctI ocm_sign kVm_sign dcm_sign pmm_sign cvm_sign ctm_sign ocW kVW dcW pmW cvW ctW ocp_entries kVp_entries dcp_entries pmp_entries cvp_entries ctp_entries ocd0 kVd0 dcd0 pmd0 cvd0 ctd0 ocd1 kVd1 dcd1 pmd1 cvd1 ctd1 ocd2 kVd2 dcd2 pmd2 cvd2 ctd2 ocd3 kVd3 dcd3 pmd3 cvd3 ctd3 ocd4 kVd4 dcd4 pmd4 cvd4 ctd4 ocd5 kVd5 dcd5 pmd5 cvd5 ctd5 ocd6 kVd6 dcd6 pmd6 cvd6 ctd6 ocd7 kVd7 dcd7 pmd7 cvd7 ctd7 ocd8 kVd8 dcd8 pmd8 cvd8 ctd8 ocd9 kVd9 dcd9 pmd9 cvd9 ctd9 ocd10 kVd10 dcd10 pmd10 cvd10 ctd10 ocd11 kVd11 dcd11 pmd11 cvd11 ctd11 ocd12 kVd12 dcd12 pmd12 cvd12 ctd12 ocd13 kVd13 dcd13 pmd13 cvd13 ctd13 ocd14 kVd14 dcd14 pmd14 cvd14 ctd14 ocd15 kVd15 dcd15 pmd15 cvd15 ctd15 ocd16 kVd16 dcd16 pmd16 cvd16 ctd16 ocd17 kVd17 dcd17 pmd17 cvd17 ctd17 ocd18 kVd18 dcd18 pmd18 cvd18 ctd18 ocd19 kVd19 dcd19 pmd19 cvd19 ctd19 ocd20 kVd20 dcd20 pmd20 cvd20 ctd20 ocd21 kVd21 dcd21 pmd21 cvd21 ctd21 ocd22 kVd22 dcd22 pmd22 cvd22 ctd22 ocd23 kVd23 dcd23 pmd23 cvd23 ctd23 ocd24 kVd24 dcd24 pmd24 cvd24 ctd24 ocd25 kVd25 dcd25 pmd25 cvd25 ctd25 ocd26 kVd26 dcd26 pmd26 cvd26 ctd26 ocd27 kVd27 dcd27 pmd27 cvd27 ctd27 ocd28 kVd28 dcd28 pmd28 cvd28 ctd28 ocd29 kVd29 dcd29 pmd29 cvd29 ctd29 ocd30 kVd30 dcd30 pmd30 cvd30 ctd30 ocd31 kVd31 dcd31 pmd31 cvd31 ctd31 ocd32 kVd32 dcd32 pmd32 cvd32 ctd32 ocd33 kVd33 dcd33 pmd33 cvd33 ctd33 ocd34 kVd34 dcd34 pmd34 cvd34 ctd34 ocT ocV : Value} {restp_entries : List Value} {nT nV : Nat} {tL tM tN tC tS tW : Tok}
    (aC : PySem.W.nsIn K mainGlobals "Order" = some (some (.ref C)))
    (aI : PySem.W.findIn K (.ref C) "__init__" = some (some (.ref fI)))
    (iI : PySem.W.isFn K (.ref fI) = true)
    (lI : K.lookup fI = some ⟨ocI, odI, .func (PySem.W.fnOf "__init__" "Order.__init__" (defArgs s_Order___init__) (defBody s_Order___init__) (defScope s_Order___init__) (.ref TI) kVI dcI pmI anI cvI ctI), slI⟩)
    (cI : PySem.W.codeIn K cvI "Order.__init__" = true)
    (kI : PySem.W.keepIn K (.ref fI) = true)
    (am_sign : PySem.W.findIn K (.ref C) "sign" = some (some (.ref fm_sign)))
    (im_sign : PySem.W.isFn K (.ref fm_sign) = true)
    (lm_sign : K.lookup fm_sign = some ⟨ocm_sign, odm_sign, .func (PySem.W.fnOf "sign" "Order.sign" (defArgs s_Order_sign) (defBody s_Order_sign) (defScope s_Order_sign) .none kVm_sign dcm_sign pmm_sign anm_sign cvm_sign ctm_sign), slm_sign⟩)
    (cm_sign : PySem.W.codeIn K cvm_sign "Order.sign" = true)
    (km_sign : PySem.W.keepIn K (.ref fm_sign) = true)
    (aW : PySem.W.nsIn K mainGlobals "weak_orders" = some (some (.ref fW)))
    (lW : K.lookup fW = some ⟨ocW, odW, .func (PySem.W.fnOf "weak_orders" "weak_orders" (defArgs s_weak_orders) (defBody s_weak_orders) (defScope s_weak_orders) (.ref TW) kVW dcW pmW anW cvW ctW), slW⟩)
    (cW : PySem.W.codeIn K cvW "weak_orders" = true)
    (kW : PySem.W.keepIn K (.ref fW) = true)
    (lV : K.lookup TW = some ⟨ocV, odV, .seq #[.none] nV, slV⟩)
    (lT : K.lookup TI = some ⟨ocT, odT, .seq #[.ref E0] nT, slT⟩)
    (ap_entries : PySem.W.findIn K (.ref C) "entries" = some (some (.ref qp_entries)))
    (gp_entries : PySem.W.specialIn K (.ref qp_entries) "__get__" = some (some (.builtin "property.__get__")))
    (tp_entries : PySem.W.takesIn K (.ref qp_entries) = some true)
    (rp_entries : PySem.W.recIn K qp_entries "property" = some (.ref fp_entries :: restp_entries))
    (lp_entries : K.lookup fp_entries = some ⟨ocp_entries, odp_entries, .func (PySem.W.fnOf "entries" "Order.entries" (defArgs s_Order_entries) (defBody s_Order_entries) (defScope s_Order_entries) .none kVp_entries dcp_entries pmp_entries anp_entries cvp_entries ctp_entries), slp_entries⟩)
    (cp_entries : PySem.W.codeIn K cvp_entries "Order.entries" = true)
    (kp_entries : PySem.W.keepIn K (.ref fp_entries) = true)
    (pg : PySem.W.plainGet K C Str.empty = true)
    (hd : PySem.W.hasDictIn K C = true)
    (po : PySem.W.plainOver K C = true)
    (sa : PySem.W.findIn K (.ref C) "__setattr__" = some (some (.builtin "object.__setattr__")))
    (mk : PySem.W.makesIn K C = true)
    (kc : PySem.W.keepIn K (.ref C) = true)
    (nE : PySem.W.findIn K (.ref C) "_entries" = some none)
    (kL : PySem.W.kitOne K (.type "list") (.ref C) = some false)
    (kT : PySem.W.kitOne K (.type "tuple") (.ref C) = some false)
    (i1 : PySem.W.findIn K (.ref C) "__class__" = some (some (.builtin "object.__class__")))
    (i2 : PySem.W.specialIn K (.builtin "object.__class__") "__get__" = some (some (.builtin "getset_descriptor.__get__")))
    (i3 : PySem.W.takesIn K (.builtin "object.__class__") = some true)
    (i4 : PySem.W.mroIn K C (.type "object") = some true)
    (ad0 : PySem.W.nsIn K mainGlobals "_law_pot" = some (some (.ref fd0)))
    (ld0 : K.lookup fd0 = some ⟨ocd0, odd0, .func (PySem.W.fnOf "_law_pot" "_law_pot" (defArgs s__law_pot) (defBody s__law_pot) (defScope s__law_pot) .none kVd0 dcd0 pmd0 and0 cvd0 ctd0), sld0⟩)
    (cd0 : PySem.W.codeIn K cvd0 "_law_pot" = true)
    (kd0 : PySem.W.keepIn K (.ref fd0) = true)
    (ad1 : PySem.W.nsIn K mainGlobals "_law_draw" = some (some (.ref fd1)))
    (ld1 : K.lookup fd1 = some ⟨ocd1, odd1, .func (PySem.W.fnOf "_law_draw" "_law_draw" (defArgs s__law_draw) (defBody s__law_draw) (defScope s__law_draw) .none kVd1 dcd1 pmd1 and1 cvd1 ctd1), sld1⟩)
    (cd1 : PySem.W.codeIn K cvd1 "_law_draw" = true)
    (kd1 : PySem.W.keepIn K (.ref fd1) = true)
    (ad2 : PySem.W.nsIn K mainGlobals "_law_value" = some (some (.ref fd2)))
    (ld2 : K.lookup fd2 = some ⟨ocd2, odd2, .func (PySem.W.fnOf "_law_value" "_law_value" (defArgs s__law_value) (defBody s__law_value) (defScope s__law_value) .none kVd2 dcd2 pmd2 and2 cvd2 ctd2), sld2⟩)
    (cd2 : PySem.W.codeIn K cvd2 "_law_value" = true)
    (kd2 : PySem.W.keepIn K (.ref fd2) = true)
    (ad3 : PySem.W.nsIn K mainGlobals "is_integer" = some (some (.ref fd3)))
    (ld3 : K.lookup fd3 = some ⟨ocd3, odd3, .func (PySem.W.fnOf "is_integer" "is_integer" (defArgs s_is_integer) (defBody s_is_integer) (defScope s_is_integer) .none kVd3 dcd3 pmd3 and3 cvd3 ctd3), sld3⟩)
    (cd3 : PySem.W.codeIn K cvd3 "is_integer" = true)
    (kd3 : PySem.W.keepIn K (.ref fd3) = true)
    (ad4 : PySem.W.nsIn K mainGlobals "is_count" = some (some (.ref fd4)))
    (ld4 : K.lookup fd4 = some ⟨ocd4, odd4, .func (PySem.W.fnOf "is_count" "is_count" (defArgs s_is_count) (defBody s_is_count) (defScope s_is_count) .none kVd4 dcd4 pmd4 and4 cvd4 ctd4), sld4⟩)
    (cd4 : PySem.W.codeIn K cvd4 "is_count" = true)
    (kd4 : PySem.W.keepIn K (.ref fd4) = true)
    (ad5 : PySem.W.nsIn K mainGlobals "is_sign" = some (some (.ref fd5)))
    (ld5 : K.lookup fd5 = some ⟨ocd5, odd5, .func (PySem.W.fnOf "is_sign" "is_sign" (defArgs s_is_sign) (defBody s_is_sign) (defScope s_is_sign) .none kVd5 dcd5 pmd5 and5 cvd5 ctd5), sld5⟩)
    (cd5 : PySem.W.codeIn K cvd5 "is_sign" = true)
    (kd5 : PySem.W.keepIn K (.ref fd5) = true)
    (ad6 : PySem.W.nsIn K mainGlobals "is_letters" = some (some (.ref fd6)))
    (ld6 : K.lookup fd6 = some ⟨ocd6, odd6, .func (PySem.W.fnOf "is_letters" "is_letters" (defArgs s_is_letters) (defBody s_is_letters) (defScope s_is_letters) .none kVd6 dcd6 pmd6 and6 cvd6 ctd6), sld6⟩)
    (cd6 : PySem.W.codeIn K cvd6 "is_letters" = true)
    (kd6 : PySem.W.keepIn K (.ref fd6) = true)
    (ad7 : PySem.W.nsIn K mainGlobals "is_value" = some (some (.ref fd7)))
    (ld7 : K.lookup fd7 = some ⟨ocd7, odd7, .func (PySem.W.fnOf "is_value" "is_value" (defArgs s_is_value) (defBody s_is_value) (defScope s_is_value) .none kVd7 dcd7 pmd7 and7 cvd7 ctd7), sld7⟩)
    (cd7 : PySem.W.codeIn K cvd7 "is_value" = true)
    (kd7 : PySem.W.keepIn K (.ref fd7) = true)
    (ad8 : PySem.W.nsIn K mainGlobals "kind_of_value" = some (some (.ref fd8)))
    (ld8 : K.lookup fd8 = some ⟨ocd8, odd8, .func (PySem.W.fnOf "kind_of_value" "kind_of_value" (defArgs s_kind_of_value) (defBody s_kind_of_value) (defScope s_kind_of_value) .none kVd8 dcd8 pmd8 and8 cvd8 ctd8), sld8⟩)
    (cd8 : PySem.W.codeIn K cvd8 "kind_of_value" = true)
    (kd8 : PySem.W.keepIn K (.ref fd8) = true)
    (ad9 : PySem.W.nsIn K mainGlobals "sign_between" = some (some (.ref fd9)))
    (ld9 : K.lookup fd9 = some ⟨ocd9, odd9, .func (PySem.W.fnOf "sign_between" "sign_between" (defArgs s_sign_between) (defBody s_sign_between) (defScope s_sign_between) .none kVd9 dcd9 pmd9 and9 cvd9 ctd9), sld9⟩)
    (cd9 : PySem.W.codeIn K cvd9 "sign_between" = true)
    (kd9 : PySem.W.keepIn K (.ref fd9) = true)
    (ad10 : PySem.W.nsIn K mainGlobals "tuples_over" = some (some (.ref fd10)))
    (ld10 : K.lookup fd10 = some ⟨ocd10, odd10, .func (PySem.W.fnOf "tuples_over" "tuples_over" (defArgs s_tuples_over) (defBody s_tuples_over) (defScope s_tuples_over) .none kVd10 dcd10 pmd10 and10 cvd10 ctd10), sld10⟩)
    (cd10 : PySem.W.codeIn K cvd10 "tuples_over" = true)
    (kd10 : PySem.W.keepIn K (.ref fd10) = true)
    (ad11 : PySem.W.nsIn K mainGlobals "weak_order_of" = some (some (.ref fd11)))
    (ld11 : K.lookup fd11 = some ⟨ocd11, odd11, .func (PySem.W.fnOf "weak_order_of" "weak_order_of" (defArgs s_weak_order_of) (defBody s_weak_order_of) (defScope s_weak_order_of) .none kVd11 dcd11 pmd11 and11 cvd11 ctd11), sld11⟩)
    (cd11 : PySem.W.codeIn K cvd11 "weak_order_of" = true)
    (kd11 : PySem.W.keepIn K (.ref fd11) = true)
    (ad12 : PySem.W.nsIn K mainGlobals "pair_sign" = some (some (.ref fd12)))
    (ld12 : K.lookup fd12 = some ⟨ocd12, odd12, .func (PySem.W.fnOf "pair_sign" "pair_sign" (defArgs s_pair_sign) (defBody s_pair_sign) (defScope s_pair_sign) .none kVd12 dcd12 pmd12 and12 cvd12 ctd12), sld12⟩)
    (cd12 : PySem.W.codeIn K cvd12 "pair_sign" = true)
    (kd12 : PySem.W.keepIn K (.ref fd12) = true)
    (ad13 : PySem.W.nsIn K mainGlobals "signs_fit" = some (some (.ref fd13)))
    (ld13 : K.lookup fd13 = some ⟨ocd13, odd13, .func (PySem.W.fnOf "signs_fit" "signs_fit" (defArgs s_signs_fit) (defBody s_signs_fit) (defScope s_signs_fit) .none kVd13 dcd13 pmd13 and13 cvd13 ctd13), sld13⟩)
    (cd13 : PySem.W.codeIn K cvd13 "signs_fit" = true)
    (kd13 : PySem.W.keepIn K (.ref fd13) = true)
    (ad14 : PySem.W.nsIn K mainGlobals "sign_of" = some (some (.ref fd14)))
    (ld14 : K.lookup fd14 = some ⟨ocd14, odd14, .func (PySem.W.fnOf "sign_of" "sign_of" (defArgs s_sign_of) (defBody s_sign_of) (defScope s_sign_of) .none kVd14 dcd14 pmd14 and14 cvd14 ctd14), sld14⟩)
    (cd14 : PySem.W.codeIn K cvd14 "sign_of" = true)
    (kd14 : PySem.W.keepIn K (.ref fd14) = true)
    (ad15 : PySem.W.nsIn K mainGlobals "is_vector" = some (some (.ref fd15)))
    (ld15 : K.lookup fd15 = some ⟨ocd15, odd15, .func (PySem.W.fnOf "is_vector" "is_vector" (defArgs s_is_vector) (defBody s_is_vector) (defScope s_is_vector) .none kVd15 dcd15 pmd15 and15 cvd15 ctd15), sld15⟩)
    (cd15 : PySem.W.codeIn K cvd15 "is_vector" = true)
    (kd15 : PySem.W.keepIn K (.ref fd15) = true)
    (ad16 : PySem.W.nsIn K mainGlobals "turned" = some (some (.ref fd16)))
    (ld16 : K.lookup fd16 = some ⟨ocd16, odd16, .func (PySem.W.fnOf "turned" "turned" (defArgs s_turned) (defBody s_turned) (defScope s_turned) .none kVd16 dcd16 pmd16 and16 cvd16 ctd16), sld16⟩)
    (cd16 : PySem.W.codeIn K cvd16 "turned" = true)
    (kd16 : PySem.W.keepIn K (.ref fd16) = true)
    (ad17 : PySem.W.nsIn K mainGlobals "sign_text" = some (some (.ref fd17)))
    (ld17 : K.lookup fd17 = some ⟨ocd17, odd17, .func (PySem.W.fnOf "sign_text" "sign_text" (defArgs s_sign_text) (defBody s_sign_text) (defScope s_sign_text) .none kVd17 dcd17 pmd17 and17 cvd17 ctd17), sld17⟩)
    (cd17 : PySem.W.codeIn K cvd17 "sign_text" = true)
    (kd17 : PySem.W.keepIn K (.ref fd17) = true)
    (ad18 : PySem.W.nsIn K mainGlobals "vector_text" = some (some (.ref fd18)))
    (ld18 : K.lookup fd18 = some ⟨ocd18, odd18, .func (PySem.W.fnOf "vector_text" "vector_text" (defArgs s_vector_text) (defBody s_vector_text) (defScope s_vector_text) .none kVd18 dcd18 pmd18 and18 cvd18 ctd18), sld18⟩)
    (cd18 : PySem.W.codeIn K cvd18 "vector_text" = true)
    (kd18 : PySem.W.keepIn K (.ref fd18) = true)
    (ad19 : PySem.W.nsIn K mainGlobals "read_sign" = some (some (.ref fd19)))
    (ld19 : K.lookup fd19 = some ⟨ocd19, odd19, .func (PySem.W.fnOf "read_sign" "read_sign" (defArgs s_read_sign) (defBody s_read_sign) (defScope s_read_sign) .none kVd19 dcd19 pmd19 and19 cvd19 ctd19), sld19⟩)
    (cd19 : PySem.W.codeIn K cvd19 "read_sign" = true)
    (kd19 : PySem.W.keepIn K (.ref fd19) = true)
    (ad20 : PySem.W.nsIn K mainGlobals "read_vector" = some (some (.ref fd20)))
    (ld20 : K.lookup fd20 = some ⟨ocd20, odd20, .func (PySem.W.fnOf "read_vector" "read_vector" (defArgs s_read_vector) (defBody s_read_vector) (defScope s_read_vector) .none kVd20 dcd20 pmd20 and20 cvd20 ctd20), sld20⟩)
    (cd20 : PySem.W.codeIn K cvd20 "read_vector" = true)
    (kd20 : PySem.W.keepIn K (.ref fd20) = true)
    (ad21 : PySem.W.nsIn K mainGlobals "is_order_column" = some (some (.ref fd21)))
    (ld21 : K.lookup fd21 = some ⟨ocd21, odd21, .func (PySem.W.fnOf "is_order_column" "is_order_column" (defArgs s_is_order_column) (defBody s_is_order_column) (defScope s_is_order_column) .none kVd21 dcd21 pmd21 and21 cvd21 ctd21), sld21⟩)
    (cd21 : PySem.W.codeIn K cvd21 "is_order_column" = true)
    (kd21 : PySem.W.keepIn K (.ref fd21) = true)
    (ad22 : PySem.W.nsIn K mainGlobals "is_entry" = some (some (.ref fd22)))
    (ld22 : K.lookup fd22 = some ⟨ocd22, odd22, .func (PySem.W.fnOf "is_entry" "is_entry" (defArgs s_is_entry) (defBody s_is_entry) (defScope s_is_entry) .none kVd22 dcd22 pmd22 and22 cvd22 ctd22), sld22⟩)
    (cd22 : PySem.W.codeIn K cvd22 "is_entry" = true)
    (kd22 : PySem.W.keepIn K (.ref fd22) = true)
    (ad23 : PySem.W.nsIn K mainGlobals "sign_by" = some (some (.ref fd23)))
    (ld23 : K.lookup fd23 = some ⟨ocd23, odd23, .func (PySem.W.fnOf "sign_by" "sign_by" (defArgs s_sign_by) (defBody s_sign_by) (defScope s_sign_by) .none kVd23 dcd23 pmd23 and23 cvd23 ctd23), sld23⟩)
    (cd23 : PySem.W.codeIn K cvd23 "sign_by" = true)
    (kd23 : PySem.W.keepIn K (.ref fd23) = true)
    (ad24 : PySem.W.nsIn K mainGlobals "entries_in" = some (some (.ref fd24)))
    (ld24 : K.lookup fd24 = some ⟨ocd24, odd24, .func (PySem.W.fnOf "entries_in" "entries_in" (defArgs s_entries_in) (defBody s_entries_in) (defScope s_entries_in) .none kVd24 dcd24 pmd24 and24 cvd24 ctd24), sld24⟩)
    (cd24 : PySem.W.codeIn K cvd24 "entries_in" = true)
    (kd24 : PySem.W.keepIn K (.ref fd24) = true)
    (ad25 : PySem.W.nsIn K mainGlobals "is_listing" = some (some (.ref fd25)))
    (ld25 : K.lookup fd25 = some ⟨ocd25, odd25, .func (PySem.W.fnOf "is_listing" "is_listing" (defArgs s_is_listing) (defBody s_is_listing) (defScope s_is_listing) .none kVd25 dcd25 pmd25 and25 cvd25 ctd25), sld25⟩)
    (cd25 : PySem.W.codeIn K cvd25 "is_listing" = true)
    (kd25 : PySem.W.keepIn K (.ref fd25) = true)
    (ad26 : PySem.W.nsIn K mainGlobals "first_wrong_entry" = some (some (.ref fd26)))
    (ld26 : K.lookup fd26 = some ⟨ocd26, odd26, .func (PySem.W.fnOf "first_wrong_entry" "first_wrong_entry" (defArgs s_first_wrong_entry) (defBody s_first_wrong_entry) (defScope s_first_wrong_entry) .none kVd26 dcd26 pmd26 and26 cvd26 ctd26), sld26⟩)
    (cd26 : PySem.W.codeIn K cvd26 "first_wrong_entry" = true)
    (kd26 : PySem.W.keepIn K (.ref fd26) = true)
    (ad27 : PySem.W.nsIn K mainGlobals "_law_vector" = some (some (.ref fd27)))
    (ld27 : K.lookup fd27 = some ⟨ocd27, odd27, .func (PySem.W.fnOf "_law_vector" "_law_vector" (defArgs s__law_vector) (defBody s__law_vector) (defScope s__law_vector) .none kVd27 dcd27 pmd27 and27 cvd27 ctd27), sld27⟩)
    (cd27 : PySem.W.codeIn K cvd27 "_law_vector" = true)
    (kd27 : PySem.W.keepIn K (.ref fd27) = true)
    (ad28 : PySem.W.nsIn K mainGlobals "_law_first" = some (some (.ref fd28)))
    (ld28 : K.lookup fd28 = some ⟨ocd28, odd28, .func (PySem.W.fnOf "_law_first" "_law_first" (defArgs s__law_first) (defBody s__law_first) (defScope s__law_first) .none kVd28 dcd28 pmd28 and28 cvd28 ctd28), sld28⟩)
    (cd28 : PySem.W.codeIn K cvd28 "_law_first" = true)
    (kd28 : PySem.W.keepIn K (.ref fd28) = true)
    (ad29 : PySem.W.nsIn K mainGlobals "_law_columns_right" = some (some (.ref fd29)))
    (ld29 : K.lookup fd29 = some ⟨ocd29, odd29, .func (PySem.W.fnOf "_law_columns_right" "_law_columns_right" (defArgs s__law_columns_right) (defBody s__law_columns_right) (defScope s__law_columns_right) .none kVd29 dcd29 pmd29 and29 cvd29 ctd29), sld29⟩)
    (cd29 : PySem.W.codeIn K cvd29 "_law_columns_right" = true)
    (kd29 : PySem.W.keepIn K (.ref fd29) = true)
    (ad30 : PySem.W.nsIn K mainGlobals "_law_vectors_right" = some (some (.ref fd30)))
    (ld30 : K.lookup fd30 = some ⟨ocd30, odd30, .func (PySem.W.fnOf "_law_vectors_right" "_law_vectors_right" (defArgs s__law_vectors_right) (defBody s__law_vectors_right) (defScope s__law_vectors_right) .none kVd30 dcd30 pmd30 and30 cvd30 ctd30), sld30⟩)
    (cd30 : PySem.W.codeIn K cvd30 "_law_vectors_right" = true)
    (kd30 : PySem.W.keepIn K (.ref fd30) = true)
    (ad31 : PySem.W.nsIn K mainGlobals "_law_fit_right" = some (some (.ref fd31)))
    (ld31 : K.lookup fd31 = some ⟨ocd31, odd31, .func (PySem.W.fnOf "_law_fit_right" "_law_fit_right" (defArgs s__law_fit_right) (defBody s__law_fit_right) (defScope s__law_fit_right) .none kVd31 dcd31 pmd31 and31 cvd31 ctd31), sld31⟩)
    (cd31 : PySem.W.codeIn K cvd31 "_law_fit_right" = true)
    (kd31 : PySem.W.keepIn K (.ref fd31) = true)
    (ad32 : PySem.W.nsIn K mainGlobals "_law_sorted_right" = some (some (.ref fd32)))
    (ld32 : K.lookup fd32 = some ⟨ocd32, odd32, .func (PySem.W.fnOf "_law_sorted_right" "_law_sorted_right" (defArgs s__law_sorted_right) (defBody s__law_sorted_right) (defScope s__law_sorted_right) .none kVd32 dcd32 pmd32 and32 cvd32 ctd32), sld32⟩)
    (cd32 : PySem.W.codeIn K cvd32 "_law_sorted_right" = true)
    (kd32 : PySem.W.keepIn K (.ref fd32) = true)
    (ad33 : PySem.W.nsIn K mainGlobals "_law_right" = some (some (.ref fd33)))
    (ld33 : K.lookup fd33 = some ⟨ocd33, odd33, .func (PySem.W.fnOf "_law_right" "_law_right" (defArgs s__law_right) (defBody s__law_right) (defScope s__law_right) .none kVd33 dcd33 pmd33 and33 cvd33 ctd33), sld33⟩)
    (cd33 : PySem.W.codeIn K cvd33 "_law_right" = true)
    (kd33 : PySem.W.keepIn K (.ref fd33) = true)
    (ad34 : PySem.W.nsIn K mainGlobals "law" = some (some (.ref fd34)))
    (ld34 : K.lookup fd34 = some ⟨ocd34, odd34, .func (PySem.W.fnOf "law" "law" (defArgs s_law) (defBody s_law) (defScope s_law) .none kVd34 dcd34 pmd34 and34 cvd34 ctd34), sld34⟩)
    (cd34 : PySem.W.codeIn K cvd34 "law" = true)
    (kd34 : PySem.W.keepIn K (.ref fd34) = true)
    (z_len : PySem.W.nsIn K mainGlobals "len" = some none)
    (z_max : PySem.W.nsIn K mainGlobals "max" = some none)
    (z_min : PySem.W.nsIn K mainGlobals "min" = some none)
    (z_abs : PySem.W.nsIn K mainGlobals "abs" = some none)
    (z_int : PySem.W.nsIn K mainGlobals "int" = some none)
    (z_divmod : PySem.W.nsIn K mainGlobals "divmod" = some none)
    (z_range : PySem.W.nsIn K mainGlobals "range" = some none)
    (z_isinstance : PySem.W.nsIn K mainGlobals "isinstance" = some none)
    (z_repr : PySem.W.nsIn K mainGlobals "repr" = some none)
    (z_all : PySem.W.nsIn K mainGlobals "all" = some none)
    (z_bool : PySem.W.nsIn K mainGlobals "bool" = some none)
    (z_str : PySem.W.nsIn K mainGlobals "str" = some none)
    (z_set : PySem.W.nsIn K mainGlobals "set" = some none)
    (z_sorted : PySem.W.nsIn K mainGlobals "sorted" = some none)
    (z_enumerate : PySem.W.nsIn K mainGlobals "enumerate" = some none)
    (z_zip : PySem.W.nsIn K mainGlobals "zip" = some none)
    (z_reversed : PySem.W.nsIn K mainGlobals "reversed" = some none)
    (z_dict : PySem.W.nsIn K mainGlobals "dict" = some none)
    (z_list : PySem.W.nsIn K mainGlobals "list" = some none)
    (z_tuple : PySem.W.nsIn K mainGlobals "tuple" = some none)
    (zL : PySem.W.nsIn K mainGlobals "LETTERS" = some (some (.str "abcdefghijklmnopqrstuvwxyz" tL)))
    (zM : PySem.W.nsIn K mainGlobals "MOST_TEXT" = some (some (.int 12 tM)))
    (zN : PySem.W.nsIn K mainGlobals "NO_ENTRIES" = some (some (.str "none" tN)))
    (zC : PySem.W.nsIn K mainGlobals "MOST_COLUMN" = some (some (.int 17 tC)))
    (zS : PySem.W.nsIn K mainGlobals "SIGN_TEXTS" = some (some (.str "-0+" tS)))
    (zW : PySem.W.nsIn K mainGlobals "MOST_THINGS" = some (some (.int 4 tW))) :
    ∃ fd : FuncData, (∀ (s : Shared) (v : Value), BindsTo s fd ⟨[v], []⟩ [("_law_script", v)]) ∧ ∀ base : Heap, K.In base → base.Ns mainGlobals mg → FnG l.prog w K mg base CX0 10 fa fd ["_law_script"] (spLaw K) := by
  have e := hfa.symm.trans (PySem.W.mg_of X G ad34)
  cases e
  have F__law_pot := fun_mk (st := s__law_pot) ld0 cd0 kd0
  have b__law_pot := F__law_pot.binds (ps := ["_law_script", "_law_k"]) fun _ _ _ _ _ _ us hl => match us, hl with | [_, _], _ => rfl
  have g__law_pot := PySem.W.mg_of X G ad0
  have F__law_draw := fun_mk (st := s__law_draw) ld1 cd1 kd1
  have b__law_draw := F__law_draw.binds (ps := ["_law_pot_here", "_law_many"]) fun _ _ _ _ _ _ us hl => match us, hl with | [_, _], _ => rfl
  have g__law_draw := PySem.W.mg_of X G ad1
  have F__law_value := fun_mk (st := s__law_value) ld2 cd2 kd2
  have b__law_value := F__law_value.binds (ps := ["_law_pot_here", "_law_is_text"]) fun _ _ _ _ _ _ us hl => match us, hl with | [_, _], _ => rfl
  have g__law_value := PySem.W.mg_of X G ad2
  have F_is_integer := fun_mk (st := s_is_integer) ld3 cd3 kd3
  have b_is_integer := F_is_integer.binds (ps := ["value"]) fun _ _ _ _ _ _ us hl => match us, hl with | [_], _ => rfl
  have g_is_integer := PySem.W.mg_of X G ad3
  have F_is_count := fun_mk (st := s_is_count) ld4 cd4 kd4
  have b_is_count := F_is_count.binds (ps := ["value"]) fun _ _ _ _ _ _ us hl => match us, hl with | [_], _ => rfl
  have g_is_count := PySem.W.mg_of X G ad4
  have F_is_sign := fun_mk (st := s_is_sign) ld5 cd5 kd5
  have b_is_sign := F_is_sign.binds (ps := ["value"]) fun _ _ _ _ _ _ us hl => match us, hl with | [_], _ => rfl
  have g_is_sign := PySem.W.mg_of X G ad5
  have F_is_letters := fun_mk (st := s_is_letters) ld6 cd6 kd6
  have b_is_letters := F_is_letters.binds (ps := ["value"]) fun _ _ _ _ _ _ us hl => match us, hl with | [_], _ => rfl
  have g_is_letters := PySem.W.mg_of X G ad6
  have F_is_value := fun_mk (st := s_is_value) ld7 cd7 kd7
  have b_is_value := F_is_value.binds (ps := ["value"]) fun _ _ _ _ _ _ us hl => match us, hl with | [_], _ => rfl
  have g_is_value := PySem.W.mg_of X G ad7
  have F_kind_of_value := fun_mk (st := s_kind_of_value) ld8 cd8 kd8
  have b_kind_of_value := F_kind_of_value.binds (ps := ["value"]) fun _ _ _ _ _ _ us hl => match us, hl with | [_], _ => rfl
  have g_kind_of_value := PySem.W.mg_of X G ad8
  have F_sign_between := fun_mk (st := s_sign_between) ld9 cd9 kd9
  have b_sign_between := F_sign_between.binds (ps := ["one", "other"]) fun _ _ _ _ _ _ us hl => match us, hl with | [_, _], _ => rfl
  have g_sign_between := PySem.W.mg_of X G ad9
  have F_tuples_over := fun_mk (st := s_tuples_over) ld10 cd10 kd10
  have b_tuples_over := F_tuples_over.binds (ps := ["choices", "length"]) fun _ _ _ _ _ _ us hl => match us, hl with | [_, _], _ => rfl
  have g_tuples_over := PySem.W.mg_of X G ad10
  have F_weak_order_of := fun_mk (st := s_weak_order_of) ld11 cd11 kd11
  have b_weak_order_of := F_weak_order_of.binds (ps := ["values"]) fun _ _ _ _ _ _ us hl => match us, hl with | [_], _ => rfl
  have g_weak_order_of := PySem.W.mg_of X G ad11
  have F_pair_sign := fun_mk (st := s_pair_sign) ld12 cd12 kd12
  have b_pair_sign := F_pair_sign.binds (ps := ["ranks", "first", "second"]) fun _ _ _ _ _ _ us hl => match us, hl with | [_, _, _], _ => rfl
  have g_pair_sign := PySem.W.mg_of X G ad12
  have F_signs_fit := fun_mk (st := s_signs_fit) ld13 cd13 kd13
  have b_signs_fit := F_signs_fit.binds (ps := ["one", "other", "both"]) fun _ _ _ _ _ _ us hl => match us, hl with | [_, _, _], _ => rfl
  have g_signs_fit := PySem.W.mg_of X G ad13
  have F_sign_of := fun_mk (st := s_sign_of) ld14 cd14 kd14
  have b_sign_of := F_sign_of.binds (ps := ["one", "other"]) fun _ _ _ _ _ _ us hl => match us, hl with | [_, _], _ => rfl
  have g_sign_of := PySem.W.mg_of X G ad14
  have F_is_vector := fun_mk (st := s_is_vector) ld15 cd15 kd15
  have b_is_vector := F_is_vector.binds (ps := ["value"]) fun _ _ _ _ _ _ us hl => match us, hl with | [_], _ => rfl
  have g_is_vector := PySem.W.mg_of X G ad15
  have F_turned := fun_mk (st := s_turned) ld16 cd16 kd16
  have b_turned := F_turned.binds (ps := ["vector"]) fun _ _ _ _ _ _ us hl => match us, hl with | [_], _ => rfl
  have g_turned := PySem.W.mg_of X G ad16
  have F_sign_text := fun_mk (st := s_sign_text) ld17 cd17 kd17
  have b_sign_text := F_sign_text.binds (ps := ["sign"]) fun _ _ _ _ _ _ us hl => match us, hl with | [_], _ => rfl
  have g_sign_text := PySem.W.mg_of X G ad17
  have F_vector_text := fun_mk (st := s_vector_text) ld18 cd18 kd18
  have b_vector_text := F_vector_text.binds (ps := ["vector"]) fun _ _ _ _ _ _ us hl => match us, hl with | [_], _ => rfl
  have g_vector_text := PySem.W.mg_of X G ad18
  have F_read_sign := fun_mk (st := s_read_sign) ld19 cd19 kd19
  have b_read_sign := F_read_sign.binds (ps := ["text"]) fun _ _ _ _ _ _ us hl => match us, hl with | [_], _ => rfl
  have g_read_sign := PySem.W.mg_of X G ad19
  have F_read_vector := fun_mk (st := s_read_vector) ld20 cd20 kd20
  have b_read_vector := F_read_vector.binds (ps := ["text"]) fun _ _ _ _ _ _ us hl => match us, hl with | [_], _ => rfl
  have g_read_vector := PySem.W.mg_of X G ad20
  have F_is_order_column := fun_mk (st := s_is_order_column) ld21 cd21 kd21
  have b_is_order_column := F_is_order_column.binds (ps := ["value"]) fun _ _ _ _ _ _ us hl => match us, hl with | [_], _ => rfl
  have g_is_order_column := PySem.W.mg_of X G ad21
  have F_is_entry := fun_mk (st := s_is_entry) ld22 cd22 kd22
  have b_is_entry := F_is_entry.binds (ps := ["value"]) fun _ _ _ _ _ _ us hl => match us, hl with | [_], _ => rfl
  have g_is_entry := PySem.W.mg_of X G ad22
  have F_sign_by := fun_mk (st := s_sign_by) ld23 cd23 kd23
  have b_sign_by := F_sign_by.binds (ps := ["entries", "signs"]) fun _ _ _ _ _ _ us hl => match us, hl with | [_, _], _ => rfl
  have g_sign_by := PySem.W.mg_of X G ad23
  have F_entries_in := fun_mk (st := s_entries_in) ld24 cd24 kd24
  have b_entries_in := F_entries_in.binds (ps := ["order"]) fun _ _ _ _ _ _ us hl => match us, hl with | [_], _ => rfl
  have g_entries_in := PySem.W.mg_of X G ad24
  have F_is_listing := fun_mk (st := s_is_listing) ld25 cd25 kd25
  have b_is_listing := F_is_listing.binds (ps := ["value"]) fun _ _ _ _ _ _ us hl => match us, hl with | [_], _ => rfl
  have g_is_listing := PySem.W.mg_of X G ad25
  have F_first_wrong_entry := fun_mk (st := s_first_wrong_entry) ld26 cd26 kd26
  have b_first_wrong_entry := F_first_wrong_entry.binds (ps := ["entries"]) fun _ _ _ _ _ _ us hl => match us, hl with | [_], _ => rfl
  have g_first_wrong_entry := PySem.W.mg_of X G ad26
  have F__law_vector := fun_mk (st := s__law_vector) ld27 cd27 kd27
  have b__law_vector := F__law_vector.binds (ps := ["_law_one", "_law_other"]) fun _ _ _ _ _ _ us hl => match us, hl with | [_, _], _ => rfl
  have g__law_vector := PySem.W.mg_of X G ad27
  have F__law_first := fun_mk (st := s__law_first) ld28 cd28 kd28
  have b__law_first := F__law_first.binds (ps := ["_law_names", "_law_entries_here", "_law_vector_here"]) fun _ _ _ _ _ _ us hl => match us, hl with | [_, _, _], _ => rfl
  have g__law_first := PySem.W.mg_of X G ad28
  have F__law_columns_right := fun_mk (st := s__law_columns_right) ld29 cd29 kd29
  have b__law_columns_right := F__law_columns_right.binds (ps := ["_law_rows", "_law_many"]) fun _ _ _ _ _ _ us hl => match us, hl with | [_, _], _ => rfl
  have g__law_columns_right := PySem.W.mg_of X G ad29
  have F__law_vectors_right := fun_mk (st := s__law_vectors_right) ld30 cd30 kd30
  have b__law_vectors_right := F__law_vectors_right.binds (ps := ["_law_names", "_law_entries_here", "_law_order", "_law_rows"]) fun _ _ _ _ _ _ us hl => match us, hl with | [_, _, _, _], _ => rfl
  have g__law_vectors_right := PySem.W.mg_of X G ad30
  have F__law_fit_right := fun_mk (st := s__law_fit_right) ld31 cd31 kd31
  have b__law_fit_right := F__law_fit_right.binds (ps := ["_law_pot_here", "_law_names", "_law_order", "_law_rows"]) fun _ _ _ _ _ _ us hl => match us, hl with | [_, _, _, _], _ => rfl
  have g__law_fit_right := PySem.W.mg_of X G ad31
  have F__law_sorted_right := fun_mk (st := s__law_sorted_right) ld32 cd32 kd32
  have b__law_sorted_right := F__law_sorted_right.binds (ps := ["_law_names", "_law_order", "_law_rows"]) fun _ _ _ _ _ _ us hl => match us, hl with | [_, _, _], _ => rfl
  have g__law_sorted_right := PySem.W.mg_of X G ad32
  have F__law_right := fun_mk (st := s__law_right) ld33 cd33 kd33
  have b__law_right := F__law_right.binds (ps := ["_law_pot_here"]) fun _ _ _ _ _ _ us hl => match us, hl with | [_], _ => rfl
  have g__law_right := PySem.W.mg_of X G ad33
  have F_law := fun_mk (st := s_law) ld34 cd34 kd34
  have b_law := F_law.binds (ps := ["_law_script"]) fun _ _ _ _ _ _ us hl => match us, hl with | [_], _ => rfl
  have g_law := PySem.W.mg_of X G ad34
  have F_sign := fun_mk (st := s_Order_sign) lm_sign cm_sign km_sign
  have b_sign := F_sign.binds (ps := ["self", "signs"]) fun _ _ _ _ _ _ us hl => match us, hl with | [_, _], _ => rfl
  have M_sign : Meth K C "sign" fm_sign := ⟨am_sign, im_sign, km_sign⟩
  have F_entries := fun_mk (st := s_Order_entries) lp_entries cp_entries kp_entries
  have b_entries := F_entries.binds (ps := ["self"]) fun _ _ _ _ _ _ us hl => match us, hl with | [_], _ => rfl
  have PO_entries : PropOf K C "entries" qp_entries fp_entries := ⟨ap_entries, gp_entries, tp_entries, _, rp_entries⟩
  have FDI : FunD K "__init__" "Order.__init__" (defArgs s_Order___init__) (defBody s_Order___init__) (defScope s_Order___init__) [V.ref E0] [] fI (PySem.W.fnOf "__init__" "Order.__init__" (defArgs s_Order___init__) (defBody s_Order___init__) (defScope s_Order___init__) (.ref TI) kVI dcI pmI anI cvI ctI) := ⟨⟨_, _, _, _, _, _, _, _, _, _, rfl, lI, cI, .inr ⟨by simp, TI, _, [.ref E0], nT, rfl, lT, rfl, .cons rfl .nil⟩, .inl rfl⟩, kI⟩
  have b_Order___init__ : Binds K (PySem.W.fnOf "__init__" "Order.__init__" (defArgs s_Order___init__) (defBody s_Order___init__) (defScope s_Order___init__) (.ref TI) kVI dcI pmI anI cvI ctI) ["self", "entries"] [] := by
    obtain ⟨ds, v, b⟩ := FDI.binds1 (ps := ["self", "entries"]) 2 1 (by simp) rfl fun T kV doc pm an cdv ct us its l1 l2 => match us, its, l1, l2 with | [_, _], [_], _, _ => ⟨_, rfl, rfl⟩
    cases v
    exact b
  have F_weak_orders : FunD K "weak_orders" "weak_orders" (defArgs s_weak_orders) (defBody s_weak_orders) (defScope s_weak_orders) [V.non] [] fW (PySem.W.fnOf "weak_orders" "weak_orders" (defArgs s_weak_orders) (defBody s_weak_orders) (defScope s_weak_orders) (.ref TW) kVW dcW pmW anW cvW ctW) := ⟨⟨_, _, _, _, _, _, _, _, _, _, rfl, lW, cW, .inr ⟨by simp, TW, _, [.none], nV, rfl, lV, rfl, .cons rfl .nil⟩, .inl rfl⟩, kW⟩
  have b_weak_orders : Binds K (PySem.W.fnOf "weak_orders" "weak_orders" (defArgs s_weak_orders) (defBody s_weak_orders) (defScope s_weak_orders) (.ref TW) kVW dcW pmW anW cvW ctW) ["count", "most"] [] := by
    obtain ⟨ds, v, b⟩ := F_weak_orders.binds1 (ps := ["count", "most"]) 2 1 (by simp) rfl fun T kV doc pm an cdv ct us its l1 l2 => match us, its, l1, l2 with | [_, _], [_], _, _ => ⟨_, rfl, rfl⟩
    cases v
    exact b
  obtain ⟨ds1, v1_weak_orders, b1_weak_orders⟩ := F_weak_orders.binds1 (ps := ["count", "most"]) 1 0 (by simp) rfl fun T kV doc pm an cdv ct us its l1 l2 => match us, its, l1, l2 with | [_], [_], _, _ => ⟨_, rfl, rfl⟩
  have g_weak_orders := PySem.W.mg_of X G aW
  have M_Order : Mk K C fI := ⟨mk, aI, iI, kc⟩
  have T : Blt mg := ⟨PySem.W.mg_none_of X G z_len, PySem.W.mg_none_of X G z_max, PySem.W.mg_none_of X G z_min, PySem.W.mg_none_of X G z_abs, PySem.W.mg_none_of X G z_int, PySem.W.mg_none_of X G z_divmod, PySem.W.mg_none_of X G z_range, PySem.W.mg_none_of X G z_isinstance, PySem.W.mg_none_of X G z_repr, PySem.W.mg_none_of X G z_all, PySem.W.mg_none_of X G z_bool, PySem.W.mg_none_of X G z_str, PySem.W.mg_none_of X G z_set, PySem.W.mg_none_of X G z_sorted, PySem.W.mg_none_of X G z_enumerate, PySem.W.mg_none_of X G z_zip, PySem.W.mg_none_of X G z_reversed, PySem.W.mg_none_of X G z_dict, PySem.W.mg_none_of X G z_list, PySem.W.mg_none_of X G z_tuple⟩
  have U : Cst mg := ⟨⟨tL, PySem.W.mg_of X G zL⟩, ⟨tM, PySem.W.mg_of X G zM⟩⟩
  have U2 : Cst2 mg := ⟨⟨tN, PySem.W.mg_of X G zN⟩, ⟨tC, PySem.W.mg_of X G zC⟩⟩
  have U3 : Cst3 mg := ⟨⟨tS, PySem.W.mg_of X G zS⟩⟩
  have U4 : Cst4 mg := ⟨⟨tW, PySem.W.mg_of X G zW⟩⟩
  have O : OrdC K mg C := ⟨⟨pg, hd, po, sa⟩, nE, PySem.W.mg_of X G aC⟩
  have I : OrdI K C := ⟨kL, kT, i1, i2, i3, i4⟩
  refine ⟨PySem.W.fnOf "law" "law" (defArgs s_law) (defBody s_law) (defScope s_law) .none kVd34 dcd34 pmd34 and34 cvd34 ctd34, fun s v => .of_eq rfl, fun base _ _ => ?_⟩
  have G_entries : FnOk l.prog w K mg base CX0 1 fp_entries _ ["self"] (getSp C "_entries") := fn_getter lp_entries cp_entries sc_Order_entries rfl rfl O.cl O.nE
  have G__law_draw := ok_draw (P := l.prog) (w := w) (mg := mg) (base := base) F__law_draw T
  have G__law_value := ok_lvalue (P := l.prog) (w := w) (mg := mg) (base := base) F__law_value T F__law_draw b__law_draw g__law_draw
  have G_is_value := ok_value (P := l.prog) (w := w) (mg := mg) (base := base) F_is_value T U F_is_integer b_is_integer g_is_integer F_is_letters b_is_letters g_is_letters
  have G_sign_of := ok_sign (P := l.prog) (w := w) (mg := mg) (base := base) F_sign_of F_is_value b_is_value g_is_value G_is_value F_kind_of_value b_kind_of_value g_kind_of_value T F_sign_between b_sign_between g_sign_between
  have G_is_order_column := ok_iscol (P := l.prog) (w := w) (mg := mg) (base := base) F_is_order_column T U U2 F_is_letters b_is_letters g_is_letters
  have G_is_entry := ok_isent (P := l.prog) (w := w) (mg := mg) (base := base) F_is_entry T F_is_order_column b_is_order_column g_is_order_column G_is_order_column
  have G_sign := ok_osign (P := l.prog) (w := w) (mg := mg) (base := base) F_sign O F_sign_by b_sign_by g_sign_by
  have G_entries_in := ok_ein (P := l.prog) (w := w) (mg := mg) (base := base) F_entries_in T O I PO_entries G_entries b_entries
  have G_first_wrong_entry := ok_wrong (P := l.prog) (w := w) (mg := mg) (base := base) F_first_wrong_entry T F_is_entry b_is_entry g_is_entry G_is_entry
  have G_Order___init__ := ok_oinit (P := l.prog) (w := w) (mg := mg) (base := base) FDI T O F_entries_in b_entries_in g_entries_in G_entries_in F_is_listing b_is_listing g_is_listing F_first_wrong_entry b_first_wrong_entry g_first_wrong_entry G_first_wrong_entry
  have G_is_sign := ok_sgn (P := l.prog) (w := w) (mg := mg) (base := base) F_is_sign T F_is_integer b_is_integer g_is_integer
  have G_is_vector := ok_vec (P := l.prog) (w := w) (mg := mg) (base := base) F_is_vector T F_is_sign b_is_sign g_is_sign G_is_sign
  have G_turned := ok_turned (P := l.prog) (w := w) (mg := mg) (base := base) F_turned T F_is_vector b_is_vector g_is_vector G_is_vector
  have G_vector_text := ok_text (P := l.prog) (w := w) (mg := mg) (base := base) F_vector_text T U3 F_is_vector b_is_vector g_is_vector G_is_vector F_sign_text b_sign_text g_sign_text
  have G_read_vector := ok_read (P := l.prog) (w := w) (mg := mg) (base := base) F_read_vector T U3 F_is_vector b_is_vector g_is_vector G_is_vector F_read_sign b_read_sign g_read_sign
  have G_signs_fit := ok_fit (P := l.prog) (w := w) (mg := mg) (base := base) F_signs_fit
  have G_pair_sign := ok_pair_sign (P := l.prog) (w := w) (mg := mg) (base := base) F_pair_sign F_sign_between b_sign_between g_sign_between
  have G_weak_order_of := ok_weak (P := l.prog) (w := w) (mg := mg) (base := base) F_weak_order_of F_is_value b_is_value g_is_value G_is_value F_kind_of_value b_kind_of_value g_kind_of_value T
  have G_weak_orders := ok_weaks (P := l.prog) (w := w) (mg := mg) (base := base) F_weak_orders T U4 F_is_integer b_is_integer g_is_integer F_is_count b_is_count g_is_count F_tuples_over b_tuples_over g_tuples_over
  have G__law_vector := ok_lvec (P := l.prog) (w := w) (mg := mg) (base := base) F__law_vector T F_sign_of b_sign_of g_sign_of G_sign_of
  have G__law_first := ok_first (P := l.prog) (w := w) (mg := mg) (base := base) F__law_first
  have G__law_columns_right := ok_cols (P := l.prog) (w := w) (mg := mg) (base := base) F__law_columns_right T F_weak_order_of b_weak_order_of g_weak_order_of G_weak_order_of F_weak_orders b_weak_orders b1_weak_orders v1_weak_orders g_weak_orders G_weak_orders F_pair_sign b_pair_sign g_pair_sign G_pair_sign F_sign_of b_sign_of g_sign_of G_sign_of
  have G__law_vectors_right := ok_vecs (P := l.prog) (w := w) (mg := mg) (base := base) F__law_vectors_right T O F__law_vector b__law_vector g__law_vector G__law_vector F_turned b_turned g_turned G_turned F_vector_text b_vector_text g_vector_text G_vector_text F_read_vector b_read_vector g_read_vector G_read_vector F__law_first b__law_first g__law_first G__law_first M_sign b_sign G_sign
  have G__law_fit_right := ok_fitR (P := l.prog) (w := w) (mg := mg) (base := base) F__law_fit_right T O F__law_vector b__law_vector g__law_vector G__law_vector F_signs_fit b_signs_fit g_signs_fit G_signs_fit F__law_draw b__law_draw g__law_draw G__law_draw F_pair_sign b_pair_sign g_pair_sign G_pair_sign F_weak_orders b1_weak_orders v1_weak_orders g_weak_orders G_weak_orders M_sign b_sign G_sign
  have G__law_sorted_right := ok_sortR (P := l.prog) (w := w) (mg := mg) (base := base) F__law_sorted_right T O F__law_vector b__law_vector g__law_vector G__law_vector M_sign b_sign G_sign
  have G__law_right := ok_right (P := l.prog) (w := w) (mg := mg) (base := base) F__law_right T O F__law_draw b__law_draw g__law_draw G__law_draw F__law_value b__law_value g__law_value G__law_value M_Order b_Order___init__ G_Order___init__ F__law_columns_right b__law_columns_right g__law_columns_right G__law_columns_right F__law_vectors_right b__law_vectors_right g__law_vectors_right G__law_vectors_right F__law_fit_right b__law_fit_right g__law_fit_right G__law_fit_right F__law_sorted_right b__law_sorted_right g__law_sorted_right G__law_sorted_right F_weak_orders b1_weak_orders v1_weak_orders g_weak_orders G_weak_orders F_weak_order_of b_weak_order_of g_weak_order_of G_weak_order_of
  exact ok_law F_law T F__law_pot b__law_pot g__law_pot F__law_right b__law_right g__law_right G__law_right
end K19

set_option Elab.async false
set_option maxRecDepth 100000
set_option maxHeartbeats 0
section
open PySem PySem.W PyProof.Rows
open_top head_k19 for PySem.Challenge.rw_pairsigns_k19_whole_signs_orders_togethe
end
open PySem PySem.W PyProof.Rows
set_option maxRecDepth 100000 in
set_option maxHeartbeats 0 in
theorem PySem.Challenge.cw_pairsigns_k19_whole_signs_orders_togethe_holds : PySem.Challenge.rw_pairsigns_k19_whole_signs_orders_togethe.Holds :=
  head_k19 (by
  k_fill
  refine PSG.walkG (l := PySem.Challenge.rw_pairsigns_k19_whole_signs_orders_togethe) (m := 63) (n := 10) (x := "_law_script") (CT := fun _ => L2.CX0) (sp := fun w => K19.spLaw _) rfl (by decide) rfl ⟨rfl, by decide, by decide⟩ (fun w h Y => PySem.W.kIn_of Y) ?F (fun _ _ a ns hl _ hS => ⟨a, ns, rfl, hS, hl, fun _ => rfl⟩) (fun _ _ _ _ _ h => h)
  case F =>
    intro w mg fa h KX G hmg
    refine' K19.all_mk KX G hmg ?aC ?aI ?iI ?lI ?cI ?kI ?am_sign ?im_sign ?lm_sign ?cm_sign ?km_sign ?aW ?lW ?cW ?kW ?lV ?lT ?ap_entries ?gp_entries ?tp_entries ?rp_entries ?lp_entries ?cp_entries ?kp_entries ?pg ?hd ?po ?sa ?mk ?kc ?nE ?kL ?kT ?i1 ?i2 ?i3 ?i4 ?ad0 ?ld0 ?cd0 ?kd0 ?ad1 ?ld1 ?cd1 ?kd1 ?ad2 ?ld2 ?cd2 ?kd2 ?ad3 ?ld3 ?cd3 ?kd3 ?ad4 ?ld4 ?cd4 ?kd4 ?ad5 ?ld5 ?cd5 ?kd5 ?ad6 ?ld6 ?cd6 ?kd6 ?ad7 ?ld7 ?cd7 ?kd7 ?ad8 ?ld8 ?cd8 ?kd8 ?ad9 ?ld9 ?cd9 ?kd9 ?ad10 ?ld10 ?cd10 ?kd10 ?ad11 ?ld11 ?cd11 ?kd11 ?ad12 ?ld12 ?cd12 ?kd12 ?ad13 ?ld13 ?cd13 ?kd13 ?ad14 ?ld14 ?cd14 ?kd14 ?ad15 ?ld15 ?cd15 ?kd15 ?ad16 ?ld16 ?cd16 ?kd16 ?ad17 ?ld17 ?cd17 ?kd17 ?ad18 ?ld18 ?cd18 ?kd18 ?ad19 ?ld19 ?cd19 ?kd19 ?ad20 ?ld20 ?cd20 ?kd20 ?ad21 ?ld21 ?cd21 ?kd21 ?ad22 ?ld22 ?cd22 ?kd22 ?ad23 ?ld23 ?cd23 ?kd23 ?ad24 ?ld24 ?cd24 ?kd24 ?ad25 ?ld25 ?cd25 ?kd25 ?ad26 ?ld26 ?cd26 ?kd26 ?ad27 ?ld27 ?cd27 ?kd27 ?ad28 ?ld28 ?cd28 ?kd28 ?ad29 ?ld29 ?cd29 ?kd29 ?ad30 ?ld30 ?cd30 ?kd30 ?ad31 ?ld31 ?cd31 ?kd31 ?ad32 ?ld32 ?cd32 ?kd32 ?ad33 ?ld33 ?cd33 ?kd33 ?ad34 ?ld34 ?cd34 ?kd34 ?z_len ?z_max ?z_min ?z_abs ?z_int ?z_divmod ?z_range ?z_isinstance ?z_repr ?z_all ?z_bool ?z_str ?z_set ?z_sorted ?z_enumerate ?z_zip ?z_reversed ?z_dict ?z_list ?z_tuple ?zL ?zM ?zN ?zC ?zS ?zW
    (case aC => k_is)
    (case aI => k_is)
    (case iI => k_is)
    (case lI => k_is)
    (case cI => k_is)
    (case kI => k_is)
    (case am_sign => k_is)
    (case im_sign => k_is)
    (case lm_sign => k_is)
    (case cm_sign => k_is)
    (case km_sign => k_is)
    (case aW => k_is)
    (case lW => k_is)
    (case cW => k_is)
    (case kW => k_is)
    (case lV => k_is)
    (case lT => k_is)
    (case ap_entries => k_is)
    (case gp_entries => k_is)
    (case tp_entries => k_is)
    (case rp_entries => k_is)
    (case lp_entries => k_is)
    (case cp_entries => k_is)
    (case kp_entries => k_is)
    (case pg => k_is)
    (case hd => k_is)
    (case po => k_is)
    (case sa => k_is)
    (case mk => k_is)
    (case kc => k_is)
    (case nE => k_is)
    (case kL => kernel_rfl)
    (case kT => kernel_rfl)
    (case i1 => k_is)
    (case i2 => k_is)
    (case i3 => k_is)
    (case i4 => k_is)
    (case ad0 => k_is)
    (case ld0 => k_is)
    (case cd0 => k_is)
    (case kd0 => k_is)
    (case ad1 => k_is)
    (case ld1 => k_is)
    (case cd1 => k_is)
    (case kd1 => k_is)
    (case ad2 => k_is)
    (case ld2 => k_is)
    (case cd2 => k_is)
    (case kd2 => k_is)
    (case ad3 => k_is)
    (case ld3 => k_is)
    (case cd3 => k_is)
    (case kd3 => k_is)
    (case ad4 => k_is)
    (case ld4 => k_is)
    (case cd4 => k_is)
    (case kd4 => k_is)
    (case ad5 => k_is)
    (case ld5 => k_is)
    (case cd5 => k_is)
    (case kd5 => k_is)
    (case ad6 => k_is)
    (case ld6 => k_is)
    (case cd6 => k_is)
    (case kd6 => k_is)
    (case ad7 => k_is)
    (case ld7 => k_is)
    (case cd7 => k_is)
    (case kd7 => k_is)
    (case ad8 => k_is)
    (case ld8 => k_is)
    (case cd8 => k_is)
    (case kd8 => k_is)
    (case ad9 => k_is)
    (case ld9 => k_is)
    (case cd9 => k_is)
    (case kd9 => k_is)
    (case ad10 => k_is)
    (case ld10 => k_is)
    (case cd10 => k_is)
    (case kd10 => k_is)
    (case ad11 => k_is)
    (case ld11 => k_is)
    (case cd11 => k_is)
    (case kd11 => k_is)
    (case ad12 => k_is)
    (case ld12 => k_is)
    (case cd12 => k_is)
    (case kd12 => k_is)
    (case ad13 => k_is)
    (case ld13 => k_is)
    (case cd13 => k_is)
    (case kd13 => k_is)
    (case ad14 => k_is)
    (case ld14 => k_is)
    (case cd14 => k_is)
    (case kd14 => k_is)
    (case ad15 => k_is)
    (case ld15 => k_is)
    (case cd15 => k_is)
    (case kd15 => k_is)
    (case ad16 => k_is)
    (case ld16 => k_is)
    (case cd16 => k_is)
    (case kd16 => k_is)
    (case ad17 => k_is)
    (case ld17 => k_is)
    (case cd17 => k_is)
    (case kd17 => k_is)
    (case ad18 => k_is)
    (case ld18 => k_is)
    (case cd18 => k_is)
    (case kd18 => k_is)
    (case ad19 => k_is)
    (case ld19 => k_is)
    (case cd19 => k_is)
    (case kd19 => k_is)
    (case ad20 => k_is)
    (case ld20 => k_is)
    (case cd20 => k_is)
    (case kd20 => k_is)
    (case ad21 => k_is)
    (case ld21 => k_is)
    (case cd21 => k_is)
    (case kd21 => k_is)
    (case ad22 => k_is)
    (case ld22 => k_is)
    (case cd22 => k_is)
    (case kd22 => k_is)
    (case ad23 => k_is)
    (case ld23 => k_is)
    (case cd23 => k_is)
    (case kd23 => k_is)
    (case ad24 => k_is)
    (case ld24 => k_is)
    (case cd24 => k_is)
    (case kd24 => k_is)
    (case ad25 => k_is)
    (case ld25 => k_is)
    (case cd25 => k_is)
    (case kd25 => k_is)
    (case ad26 => k_is)
    (case ld26 => k_is)
    (case cd26 => k_is)
    (case kd26 => k_is)
    (case ad27 => k_is)
    (case ld27 => k_is)
    (case cd27 => k_is)
    (case kd27 => k_is)
    (case ad28 => k_is)
    (case ld28 => k_is)
    (case cd28 => k_is)
    (case kd28 => k_is)
    (case ad29 => k_is)
    (case ld29 => k_is)
    (case cd29 => k_is)
    (case kd29 => k_is)
    (case ad30 => k_is)
    (case ld30 => k_is)
    (case cd30 => k_is)
    (case kd30 => k_is)
    (case ad31 => k_is)
    (case ld31 => k_is)
    (case cd31 => k_is)
    (case kd31 => k_is)
    (case ad32 => k_is)
    (case ld32 => k_is)
    (case cd32 => k_is)
    (case kd32 => k_is)
    (case ad33 => k_is)
    (case ld33 => k_is)
    (case cd33 => k_is)
    (case kd33 => k_is)
    (case ad34 => k_is)
    (case ld34 => k_is)
    (case cd34 => k_is)
    (case kd34 => k_is)
    (case z_len => k_is)
    (case z_max => k_is)
    (case z_min => k_is)
    (case z_abs => k_is)
    (case z_int => k_is)
    (case z_divmod => k_is)
    (case z_range => k_is)
    (case z_isinstance => k_is)
    (case z_repr => k_is)
    (case z_all => k_is)
    (case z_bool => k_is)
    (case z_str => k_is)
    (case z_set => k_is)
    (case z_sorted => k_is)
    (case z_enumerate => k_is)
    (case z_zip => k_is)
    (case z_reversed => k_is)
    (case z_dict => k_is)
    (case z_list => k_is)
    (case z_tuple => k_is)
    (case zL => k_is)
    (case zM => k_is)
    (case zN => k_is)
    (case zC => k_is)
    (case zS => k_is)
    (case zW => k_is))
