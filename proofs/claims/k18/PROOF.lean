import PyProof.Rows.All
import Wide.All
import OpenK.AllK
import Wide.FinOn
import HandS.Base
import HandS.Call
import HandS.List
import HandS.Comp
import HandS.Dict
import HandS.Iter
import HandS.Text
import HandS.Ends
import HandS.Exc
import HandS.ExcOwn
import HandS.TryOnly
import HandS.TryMany
import HandS.ExcInit
import HandS.ExcField
import HandS.ExcIs
import HandS.IsInst
import HandS.WideBits
import HandS.ForMost
import HandS.WordsExc
import KE.KTryMore
import KE.KExcHand
import KE.KExcInit
import HandS.Small
import HandS.SetFor
import HandS.Zip
import PyProof.Draws
import PyProof.EnumMake
import HandS.HotCalls
import HandS.ExcInitHot
import HandS.Replace
import PyProof.TupleCall
import PyProof.CollectStr
import HandS.SetKeys
import HandS.Strs
import HandS.More
import HandS.SetBool
import HandS.DictComp
import KE.GoesMore
import HandS.Rev
import KE.KDictList
import HandS.Codes
import HandS.Property
import HandS.Star
import HandS.Defaults
import HandS.Conv
import PyProof.StrLawsRepr
import PyProof.ReprLen
import PySem.Challenge.RW_pairsigns_k18_whole_orders_sort_rows
set_option linter.all false
set_option Elab.async false
set_option linter.all false
set_option maxRecDepth 100000
set_option maxHeartbeats 4000000
namespace PSG
open PySem PySem.Spec PyProof.Rows L2
/-! ### promises of defs that know that no repr is under way -/
structure FnG (P : Program) (w : World) (K : PySem.W.Frag) (mg : Str → Option Value) (base : Heap) (CT : CXT) (n : Nat) (at_ : Addr) (fd : FuncData) (ps : List Str) (sp : Sp) : Prop where
  many : ∀ vs H Q E, sp vs H Q E → vs.length = ps.length
  goes : ∀ (B : Around) (up : List Env) (s : Shared) (H : Hp) (ar : Args) (us : List Value) (vs : List V) (Q : VK) (E : XK),
    Room n B → B.guards = some [] → Env0 P w K mg base B up s H →
    BindsTo s fd ar (ps.zip us) → Vals vs us → sp vs H Q E →
    codeAny (model P w) B (.call (.ref at_) ar) (CR CT up P w H s Q E) s
section
variable {P : Program} {w : World} {K : PySem.W.Frag} {mg : Str → Option Value} {base : Heap} {CT : CXT}
theorem FnG.of {n : Nat} {at_ : Addr} {fd : FuncData} {ps : List Str} {sp : Sp} (F : FnOk P w K mg base CT n at_ fd ps sp) : FnG P w K mg base CT n at_ fd ps sp :=
  ⟨F.len, fun B up s H ar us vs Q E r _ => F.run B up s H ar us vs Q E r⟩
theorem fnG {n : Nat} {at_ : Addr} {nm ql : Str} {pa : Arguments} {bd : List Stmt} {sc : Scope} {dv kv dc pm cv ct oc : Value} {an od : Option Addr}
    {sl : Array (Option Value)} {N ps : List Str} {sp : Sp}
    (found : K.lookup at_ = some ⟨oc, od, .func (PySem.W.fnOf nm ql pa bd sc dv kv dc pm an cv ct), sl⟩)
    (code : PySem.W.codeIn K cv ql = true) (S : FnScope N ps sc) (many : ∀ vs H Q E, sp vs H Q E → vs.length = ps.length)
    (main : ∀ (B : Around) (up : List Env) (s : Shared) (H : Hp) (vs : List V) (Q : VK) (E : XK),
      Room n (B.deeper (envOfC ql sc s.heap.objs.size at_ cv)) → B.guards = some [] → sp vs H Q E →
      ∃ t, PSs (cxOf CT P w K mg base N ql sc at_ cv B up s H E) bd t ∧ t { nx := fun _ G => Q .non G, rt := Q } (start N vs) H) :
    FnG P w K mg base CT (n + 1) at_ (PySem.W.fnOf nm ql pa bd sc dv kv dc pm an cv ct) ps sp where
  many := many
  goes := by
    intro B up s H ar us vs Q E room gd en bi va ho
    have keepB : ∀ b o, base.get? b = some o → s.heap.get? b = some o := fun b o z => (en.bs b o z).1
    have atK := en.mod.kin.keeps keepB
    refine codeAny_call_function room.depth (atK _ _ found) rfl S.co S.gen rfl (PySem.W.codeRec_of atK code) (bi _ _ _ _ ?_)
    refine wpAny_newFunctionEnv_cells S.kind (fun y hy => ?_) fun env he t1 x => ?_
    · obtain ⟨n, v⟩ := y
      cases S.par n (List.of_mem_zip hy).1 with
      | inl z => exact .inl z
      | inr z => exact .inr ⟨z, PySem.W.cellsFrom_some _ _ _ (.inl z)⟩
    · cases he
      refine ⟨(en.mod.nolimit.keeps keepB).keeps x.toInCall.keep, codeAny_func ?_⟩
      obtain ⟨t, der, rd⟩ := main B up s H vs Q E (room.deeper _) gd ho
      have J := inv_start (CX := CT) (E := E) S room.hd en (many _ _ _ _ ho) va x
      refine wpAny_mono (der.run [] t1 _ H _ J rd) ?_ fun _ _ z => z
      intro fl t2 z
      cases fl with
      | next =>
        obtain ⟨_, G, J2, q⟩ := z
        exact ⟨V.non, G, J2.os, J2.bare, J2.base, J2.hok, rfl, q⟩
      | ret u =>
        obtain ⟨v, _, G, J2, rel, q⟩ := z
        exact ⟨v, G, J2.os, J2.bare, J2.base, J2.hok, rel, q⟩
      | brk => exact (show False from z.choose_spec.choose_spec.2).elim
      | cont => exact (show False from z.choose_spec.choose_spec.2).elim
end
section
variable {X : Cx} {CT : CXT} {n : Nat} {at_ : Addr} {fd : FuncData} {ps : List Str} {sp : Sp} {dvs : List V} {ds : List Value} {E : XK} {x : Str} {p pos : Pos} {e : Expr} {es : List Expr} {t : TA}
theorem run_g {pins : List (Addr × Obj)} {σ : L2.St} {H : Hp} {s : Shared} {Q : VK} {us : List Value} {vs : List V}
    (F : FnG X.prog X.w X.K X.mg X.base CT n at_ fd ps sp) (room : Room n X.A) (gd : X.A.guards = some []) (bi : Binds X.K fd ps ds) (dv : Vals dvs ds) (pass : Passes CT X E)
    (I : Inv X pins σ H s) (va : Vals vs us) (ho : sp (vs ++ dvs) H Q E) : wpAny (model X.prog X.w) X.A (call (.ref at_) us) (EP X pins σ Q) X.xe s := by
  have va2 := va.append dv
  have many : (us ++ ds).length = ps.length := va2.length.symm.trans (F.many _ _ _ _ ho)
  refine wpAny_call (codeAny_mono (F.goes X.A X.stack s H ⟨us, []⟩ (us ++ ds) (vs ++ dvs) Q E room gd I.env0 (bi s us I.kIn many) va2 ho) ?_)
  intro r t2 z
  match r, z with
  | .error er, z => exact pass pins σ H s er t2 I z
  | .ok (.ret u), z => exact I.after z
theorem pe_callG (F : FnG X.prog X.w X.K X.mg X.base CT n at_ fd ps sp) (room : Room n X.A) (gd : X.A.guards = some []) (hg : Gl X x) (hm : X.mg x = some (.ref at_)) (kp : PySem.W.keepIn X.K (.ref at_) = true)
    (bi : Binds X.K fd ps ds) (dv : Vals dvs ds) (pass : Passes CT X E) (ha : PA X (e :: es) t) (nd : (x == ("__debug__" : Str)) = false := by decide)
    (se : starEach (e :: es) X.env = (false, eval e X.env) :: starEach es X.env := by rfl) (sn : (backTo pos (starEach es X.env)).any (·.1) = false := by rfl) :
    PE X (.Call (.Name x p) (e :: es) [] pos) (tCall sp dvs E t) where
  run := fun pins s σ H Q I ho => wpAny_Call_Name_kw (ld_glob I hg hm (PySem.W.callWith_K (h₀ := X.base) I.ok.mod.kin kp
    (thn (ha.run pos pins s σ H _ I ho) fun us s1 ⟨vs, H1, I1, r, q⟩ => ⟨I1.kIn, run_g F room gd bi dv pass I1 r q⟩) se sn) nd)
end
end PSG

set_option Elab.async false
set_option linter.all false
set_option maxRecDepth 100000
set_option maxHeartbeats 4000000
namespace PSG
open PySem PySem.Spec L2
open PyProof.Rows (IntsAre AllBare)
/-! ### data with flat dicts, and repr -/
/-- a key as data -/
def keyD : Key → PyData
  | .inl i => .int i
  | .inr x => .str x
/-- a value that is no object, as data -/
def flatD : V → Option PyData
  | .non => some .none
  | .bl b => some (.bool b)
  | .int i => some (.int i)
  | .str x => some (.str x)
  | _ => none
mutual
/-- a value that is data, all of it tracked -/
inductive Dt (far : Bool) (H : Hp) : V → PyData → Prop
  | non : Dt far H .non .none
  | bl (b : Bool) : Dt far H (.bl b) (.bool b)
  | int (i : Int) : Dt far H (.int i) (.int i)
  | str (x : Str) : Dt far H (.str x) (.str x)
  | lst {a : Addr} {xs : List V} {ds : List PyData} : H a = some (.lst xs) → (far = true → a ≠ sysModules) → DtAll far H xs ds → Dt far H (.ref a) (.list ds)
  | tup {a : Addr} {xs : List V} {ds : List PyData} : H a = some (.tup xs) → DtAll far H xs ds → Dt far H (.ref a) (.tuple ds)
  | dict {a : Addr} {kvs : List (Key × V)} {kds : List (Key × PyData)} : H a = some (.dK kvs) → Paired (fun p q => p.1 = q.1 ∧ flatD p.2 = some q.2) kvs kds →
      Dt far H (.ref a) (.dict (kds.map fun q => (keyD q.1, q.2)))
inductive DtAll (far : Bool) (H : Hp) : List V → List PyData → Prop
  | nil : DtAll far H [] []
  | cons {v : V} {vs : List V} {d : PyData} {ds : List PyData} : Dt far H v d → DtAll far H vs ds → DtAll far H (v :: vs) (d :: ds)
end
mutual
def hasList : PyData → Bool
  | .list _ => true
  | .tuple xs => hasListAll xs
  | _ => false
def hasListAll : List PyData → Bool
  | [] => false
  | x :: xs => hasList x || hasListAll xs
end
theorem flat_reads {h : Heap} {v : V} {u : Value} {d : PyData} (e : flatD v = some d) (r : RelV v u) : Reads h u d [] := by
  cases v with
  | non => cases e; cases r; exact .none
  | bl b => cases e; cases r; exact .bool b
  | int i => cases e; obtain ⟨t, rfl⟩ := r; exact .int i t
  | str x => cases e; obtain ⟨t, rfl⟩ := r; exact .str x t
  | byt _ => cases e
  | flt _ => cases e
  | ref _ => cases e
  | ty _ => cases e
theorem key_reads {h : Heap} {k : Key} {u : Value} (e : keyIs k u = true) : Reads h u (keyD k) [] := by
  rcases keyIs_shape e with ⟨i, t, rfl, rfl⟩ | ⟨x, t, rfl, rfl⟩
  · exact .int i t
  · exact .str x t
theorem dict_reads {P : Program} {w : World} {h : Heap} : ∀ {kvs : List (Key × V)} {kds : List (Key × PyData)} {vs : List (Key × Value)} {es : List DictEntry},
    Paired (fun p q => p.1 = q.1 ∧ flatD p.2 = some q.2) kvs kds → KV kvs vs → Pairs (mixKind P w) es vs →
    ReadsAll h (es.map (·.key)) ((kds.map fun q => (keyD q.1, q.2)).map (·.1)) [] ∧ ReadsAll h (es.map (·.val)) ((kds.map fun q => (keyD q.1, q.2)).map (·.2)) []
  | _, _, _, _, .nil, .nil, .nil => ⟨.nil, .nil⟩
  | _, _, _, _, .cons ⟨e1, f⟩ t1, .cons ⟨e2, r⟩ t2, .cons k v t3 => by
    obtain ⟨i1, i2⟩ := dict_reads (h := h) t1 t2 t3
    have k' : keyIs _ _ = true := k
    rw [← e2, e1] at k'
    refine ⟨ReadsAll.cons (as := []) (key_reads k') i1, ReadsAll.cons (as := []) ?_ i2⟩
    dsimp only
    rw [v]
    exact flat_reads f r
section
variable {X : Cx} {pins : List (Addr × Obj)} {σ : L2.St} {H : Hp} {s : Shared}
mutual
/-- such data is read; where it has no list, sys.modules is not within -/
theorem Dt.reads {far : Bool} (I : Inv X pins σ H s) : ∀ {d : PyData} {v : V} {u : Value}, Dt far H v d → RelV v u → ∃ as, Reads s.heap u d as ∧ ((far = true ∨ hasList d = false) → sysModules ∉ as)
  | _, _, _, .non, r => by cases r; exact ⟨_, .none, fun _ m => nomatch m⟩
  | _, _, _, .bl b, r => by cases r; exact ⟨_, .bool b, fun _ m => nomatch m⟩
  | _, _, _, .int i, r => by obtain ⟨t, rfl⟩ := r; exact ⟨_, .int i t, fun _ m => nomatch m⟩
  | _, _, _, .str x, r => by obtain ⟨t, rfl⟩ := r; exact ⟨_, .str x t, fun _ m => nomatch m⟩
  | _, _, _, .lst (a := a) (xs := xs) e fr t, r => by
    cases r
    obtain ⟨_, its, n, rv, ho⟩ := I.hok a (.lst xs) e
    obtain ⟨as, z, n1⟩ := DtAll.reads I t rv
    refine ⟨_, Reads.list ho rfl rfl z, fun no m => ?_⟩
    rcases no with no | no
    · rcases List.mem_cons.mp m with m | m
      · exact fr no m.symm
      · exact n1 (.inl no) m
    · simp [hasList] at no
  | _, _, _, .tup (a := a) (xs := xs) e t, r => by
    cases r
    obtain ⟨_, its, rv, o, ho, hc, n, hd⟩ := I.hok a (.tup xs) e
    obtain ⟨as, z, no⟩ := DtAll.reads I t rv
    exact ⟨_, Reads.tuple ho hc hd z, fun q => no (by simpa [hasList] using q)⟩
  | _, _, _, .dict (a := a) (kvs := kvs) e pr, r => by
    cases r
    obtain ⟨_, low, vs, kv, o, es, ep, ho, hx, hd, _, pa, _⟩ := dk_of I.hok e
    obtain ⟨z1, z2⟩ := dict_reads (h := s.heap) pr kv pa
    refine ⟨_, Reads.dict ho hx.1 hd z1 z2, fun _ m => ?_⟩
    rw [List.mem_append] at m
    rcases m with m | m
    · rcases List.mem_cons.mp m with m | m
      · rw [← m] at low
        simp at low
      · cases m
    · cases m
theorem DtAll.reads {far : Bool} (I : Inv X pins σ H s) : ∀ {ds : List PyData} {vs : List V} {us : List Value}, DtAll far H vs ds → Vals vs us → ∃ as, ReadsAll s.heap us ds as ∧ ((far = true ∨ hasListAll ds = false) → sysModules ∉ as)
  | _, _, _, .nil, r => by cases r; exact ⟨_, .nil, fun _ m => nomatch m⟩
  | _, _, _, .cons h t, r => by
    cases r with
    | cons r1 r2 =>
      obtain ⟨as, z1, n1⟩ := Dt.reads I h r1
      obtain ⟨bs, z2, n2⟩ := DtAll.reads I t r2
      refine ⟨_, .cons z1 z2, fun no m => ?_⟩
      simp only [hasListAll, Bool.or_eq_false_iff] at no
      rcases List.mem_append.mp m with m | m
      · exact n1 (no.imp id And.left) m
      · exact n2 (no.imp id And.right) m
end
end
/-- repr(x) of data -/
def rRep : List V → Hp → VK → Prop := fun xs H Q => ∃ x d far, xs = [x] ∧ Dt far H x d ∧ (d.hasDict = true → far = true ∨ hasList d = false) ∧ d.showable = true ∧ d.shown.length ≤ sizeLine ∧ d.depth ≤ 60 ∧ Q (.str d.shown) H
section
variable {X : Cx}
theorem call_repr {n : Nat} (room : Room n X.A) (gd : X.A.guards = some []) : CallR X (.builtin "repr") rRep := by
  intro pins s σ H xs us Q I r ho
  obtain ⟨x, d, far, rfl, dq, cl, sh, sz, dp, q⟩ := ho
  cases r with
  | @cons _ u _ ws rx rr =>
    cases rr
    obtain ⟨as, rd, no1⟩ := dq.reads I rx
    have nosys : d.hasDict = true → sysModules ∉ as := fun z => no1 (cl z)
    have un := room.un
    cases rd with
    | none =>
      exact P.repr_of_none ⟨.str _, H, I.tok _, ⟨_, rfl⟩, by simpa only [PyData.shown] using q⟩
    | bool b =>
      refine P.repr_of_bool ⟨.str _, H, I.tok _, ⟨_, rfl⟩, ?_⟩
      simp only [PyData.shown] at q
      cases b
      · exact q
      · exact q
    | int i t =>
      exact P.repr_of_int (by simpa [PyData.showable] using sh) ⟨.str _, H, I.tok _, ⟨_, rfl⟩, by simpa only [PyData.shown] using q⟩
    | str z t =>
      simp only [PyData.shown] at q sz
      exact P.repr_of_str ⟨.str _, H, I.tok _, ⟨_, rfl⟩, q⟩ sz
    | list h1 h2 h3 h4 =>
      exact repr_of_reads' (Reads.list h1 h2 h3 h4) sh nosys gd (by omega) (fun _ _ z => z) (fun h' u tk k => ⟨.str _, H, I.kept k, ⟨_, rfl⟩, q⟩) sz
    | tuple h1 h2 h3 h4 =>
      exact repr_of_reads' (Reads.tuple h1 h2 h3 h4) sh nosys gd (by omega) (fun _ _ z => z) (fun h' u tk k => ⟨.str _, H, I.kept k, ⟨_, rfl⟩, q⟩) sz
    | dict h1 h2 h3 h4 h5 =>
      exact repr_of_reads' (Reads.dict h1 h2 h3 h4 h5) sh nosys gd (by omega) (fun _ _ z => z) (fun h' u tk k => ⟨.str _, H, I.kept k, ⟨_, rfl⟩, q⟩) sz
end
/-! ### the law's own end -/
theorem hidT_ns {h : Heap} {H : Hp} {b : Addr} {m : Str → Option Value} (z : h.Ns b m) (free : ∀ (o : Obj) (es : Array DictEntry) (ep : Nat), h.get? b = some o → o.data = .dict es ep → H b = none) : (hidT h H).Ns b m := by
  obtain ⟨o, es, ep, e, d, r⟩ := z
  exact ⟨o, es, ep, hidT_get e (free o es ep e d), d, r⟩
theorem lawG_call {P : Program} {w : World} {K : PySem.W.Frag} {mg mb : Str → Option Value} {CT : CXT} {n : Nat} {fa a : Addr} {fd : FuncData} {x : Str} {sp : Sp} {s₁ : Shared} {vs : List Value} {ns : List Int}
    (atK : K.In s₁.heap) (glob : s₁.heap.Ns mainGlobals mg) (blt : s₁.heap.Ns builtinsNs mb) (boot : ∀ x : Str, x ≠ "__name__" → mb x = bootBuiltins x) (lim : s₁.heap.NoLimit) (gens : s₁.gens = #[])
    (ob : s₁.heap.get? a = some { cls := .type "list", data := .seq vs.toArray }) (nums : IntsAre vs ns) (len : ns.length ≤ sizeLine) (room : Room n callerA)
    (F : ∀ base : Heap, K.In base → base.Ns mainGlobals mg → FnG P w K mg base CT n fa fd [x] sp) (bi : ∀ (s : Shared) (u : Value), BindsTo s fd ⟨[u], []⟩ [(x, u)])
    (ho : ∀ H : Hp, Only H → SqL K H a (ns.map V.int) → sp [.ref a] H (fun v _ => v = .bl true) fun _ _ _ => False)
    (none_out : ∀ H e s', CT [] H s₁ (fun _ _ _ => False) e s' → False) :
    codeAny (model P w) callerA (.call (.ref fa) ⟨[.ref a], []⟩) (fun r s' => r = .ok (.ret (.bool true)) ∧ OldK s₁.heap s'.heap ∧ s'.os = s₁.os ∧ AllBare s'.gens) s₁ := by
  have main : ∀ H : Hp, Only H → SqL K H a (ns.map V.int) → HOk P w H s₁.heap → (∀ b, b ≠ a → H b = none) → (K.lookup a = none ∨ H a = none) →
      codeAny (model P w) callerA (.call (.ref fa) ⟨[.ref a], []⟩) (fun r s' => r = .ok (.ret (.bool true)) ∧ OldK s₁.heap s'.heap ∧ s'.os = s₁.os ∧ AllBare s'.gens) s₁ := by
    intro H only sq hok off at_
    have free : ∀ (b : Addr) (o : Obj) (es : Array DictEntry) (ep : Nat), s₁.heap.get? b = some o → o.data = .dict es ep → H b = none := by
      intro b o es ep e d
      by_cases hb : b = a
      · rw [hb, ob] at e
        cases e
        cases d
      · exact off b hb
    have inB : K.In (hidT s₁.heap H) := by
      intro b o e
      refine hidT_get (atK b o e) ?_
      by_cases hb : b = a
      · rcases at_ with z | z
        · rw [hb, z] at e
          cases e
        · rw [hb]
          exact z
      · exact off b hb
    have nsB : (hidT s₁.heap H).Ns mainGlobals mg := hidT_ns glob (free _)
    obtain ⟨mc, l1, l2⟩ := lim
    have mod : L2.Mod K mg (hidT s₁.heap H) := ⟨inB, nsB, ⟨mb, hidT_ns blt (free _), boot⟩, ⟨mc, hidT_ns l1 (free _), l2⟩⟩
    have en : Env0 P w K mg (hidT s₁.heap H) callerA [] s₁ H :=
      ⟨rfl, mod, fun b o z => of_hidT z, Nat.le_of_eq (hidT_size _ _), trivial, fun b z => (List.not_mem_nil z).elim, hok, .of_eq gens⟩
    refine codeAny_mono ((F _ inB nsB).goes callerA [] s₁ H ⟨[.ref a], []⟩ [.ref a] [.ref a] _ _ room rfl en (bi s₁ (.ref a)) (.cons rfl .nil) (ho H only sq)) ?_
    intro r s' z
    match r, z with
    | .error er, z => exact (none_out H er s' z).elim
    | .ok (.ret u), z =>
      obtain ⟨v, G, os, bare, un, hok', rel, rfl⟩ := z
      cases rel
      refine ⟨rfl, OldK.of_keep fun b o e => ?_, os, bare⟩
      rcases only b with q | ⟨ob2, ys, q⟩
      · exact un.keep b o e q (fun z => List.not_mem_nil z) (fun z => List.not_mem_nil z)
      · have e1 := (hok b _ q).1
        have e2 := (hok' b _ (un.frzs b ob2 _ q)).1
        rw [e] at e1
        cases e1
        exact e2
  cases there : K.lookup a with
  | some o =>
    have e := (atK a o there).symm.trans ob
    cases e
    exact main (fun _ => none) (fun _ => .inl rfl) (.inr ⟨_, vs.toArray, _, there, rfl, rfl, rfl, by rw [List.size_toArray, nums.length]; exact len, by simpa using vals_ints nums⟩) (fun b u z => nomatch z) (fun _ _ => rfl) (.inr rfl)
  | none =>
    refine main (upd (fun _ => none) a (.frz { cls := .type "list", data := .seq vs.toArray } (.lst (ns.map V.int)))) (fun b => ?_) (.inl (.inr ⟨_, upd_same⟩)) (fun b u z => ?_) (fun b hb => upd_ne hb) (.inl there)
    · by_cases hb : b = a
      · rw [hb]
        exact .inr ⟨_, _, upd_same⟩
      · exact .inl (upd_ne hb)
    · by_cases hb : b = a
      · rw [hb, upd_same] at z
        cases z
        rw [hb]
        exact ⟨ob, by rw [List.length_map]; exact len, vs, _, vals_ints nums, ob⟩
      · rw [upd_ne hb] at z
        cases z
theorem walkG {l : PySem.W.OpenLaw} {m n : Nat} {q : Program} {loose : List Str} {XP : (Str → Option Value) → Heap → Prop} {YP : World → Heap → Prop} {d : DefRec} {K : Params → PySem.W.Frag} {CT : World → CXT} {sp : World → Sp} {x : Str}
    (most : l.most = some m) (fits : m ≤ sizeLine) (nodef : d.params.defaults = []) (room : Room n callerA) (inn : ∀ (w : World) (h : Heap), YP w h → (K w.params).In h)
    (F : ∀ (w : World) (mg : Str → Option Value) (fa : Addr) (h : Heap), (K w.params).In h → h.Ns mainGlobals mg → mg d.name = some (.ref fa) →
      ∃ fd : FuncData, (∀ (s : Shared) (u : Value), BindsTo s fd ⟨[u], []⟩ [(x, u)]) ∧ ∀ base : Heap, (K w.params).In base → base.Ns mainGlobals mg → FnG l.prog w (K w.params) mg base (CT w) n fa fd [x] (sp w))
    (ho : ∀ (w : World) (H : Hp) (a : Addr) (ns : List Int), ns.length ≤ m → Only H → SqL (K w.params) H a (ns.map V.int) → sp w [.ref a] H (fun v _ => v = .bl true) fun _ _ _ => False)
    (none_out : ∀ (w : World) (H : Hp) (s : Shared) (e : Value) (s' : Shared), CT w [] H s (fun _ _ _ => False) e s' → False) :
    PySem.W.WalkO q loose XP YP l.row.toRowW d [] (fun f vs => PySem.call f vs) := by
  refine Att.attach_call most nodef ?_
  intro w s₀ s₁ mg mb fa o pm cd doc a vs ns G Y _ _ _ isAt ob nums len gens
  obtain ⟨fd, bi, good⟩ := F w mg fa _ (inn w _ Y) G.T.g isAt
  exact lawG_call (inn w _ Y) G.T.g G.T.b G.T.builtins G.T.nolimit gens ob nums (Nat.le_trans len fits) room good bi (fun H h1 h2 => ho w H a ns len h1 h2) fun H e s' => none_out w H s₁ e s'
end PSG

set_option Elab.async false
set_option linter.all false
set_option maxRecDepth 100000
set_option maxHeartbeats 4000000
namespace PSG
open PySem PySem.Spec L2
open PyProof.Rows (IntsAre AllBare)
/-! ### try with several clauses, names or pairs of names as their classes, with or without «as» -/
theorem upToSlots_more {h h' : Heap} (k : ∀ q o, h.get? q = some o → h'.get? q = some o) : h.UpToSlots h' := fun b o e _ => ⟨o.slots, k b o e⟩
theorem flying_more {base h h' : Heap} {l : List Env} {e : Addr} {Z : Obj → Prop} (x : PySem.HandSPX.FlyingZ base l e Z h) (k : ∀ q o, h.get? q = some o → h'.get? q = some o) : PySem.HandSPX.FlyingZ base l e Z h' := by
  obtain ⟨st, nb, ff, oe, vs, T, oT, ts, he, z, hv, h1, hT, ne, gT, hts, h3⟩ := x
  exact ⟨fun b o q => k b o (st b o q), nb, ff.of_keeps fun b o q _ => ⟨o, k b o q, rfl⟩, oe, vs, T, oT, ts, k _ _ he, z, hv, h1, hT, ne, k _ _ gT, hts, h3⟩
/-- the test of a clause: ok tells of which classes it is answered how -/
def Asks (X : Cx) (t : Expr) (ok : Value → Bool → Prop) : Prop :=
  ∀ (a : Addr) (oe : Obj) (cls : Value) (d : Option Addr) (pn pins : List (Addr × Obj)) (σ : L2.St) (H : Hp) (s : Shared) (Q : Value → Shared → Prop) (E : Value → Shared → Prop) (b : Bool),
    Zc cls d oe → (∃ vs, oe.data = .fields vs) → Inv (X.suite a ((a, oe) :: pn)) pins σ H s → ok cls b →
    (∀ c h' tk, (∀ q o, s.heap.get? q = some o → h'.get? q = some o) → PySem.W.Looks (model X.prog X.w) h' (excMatches (.ref a) c) b → Q c { s with heap := h', toks := tk }) →
    wpAny (model X.prog X.w) (X.A.mark (some (.ref a))) (eval t X.env) Q E s
section
variable {X : Cx}
theorem name_is {x : Str} {c : Value} {np : Pos} (hc : Names X x c) {a : Addr} {pn pins : List (Addr × Obj)} {σ : L2.St} {H : Hp} {s : Shared} {Q : Value → Shared → Prop} {E : Value → Shared → Prop}
    (I : Inv (X.suite a pn) pins σ H s) (q : Q c s) : wpAny (model X.prog X.w) (X.A.mark (some (.ref a))) (eval (.Name x np) X.env) Q E s := by
  obtain ⟨g, nd, m | ⟨m, v, nn⟩⟩ := hc
  · exact ld_glob (X := X.suite a pn) I g m q nd
  · exact ld_blt (X := X.suite a pn) I g m v q nn nd
theorem exc_class {a : Addr} {oe : Obj} {cls : Value} {d : Option Addr} {pn pins : List (Addr × Obj)} {σ : L2.St} {H : Hp} {s : Shared} (z : Zc cls d oe) (I : Inv (X.suite a ((a, oe) :: pn)) pins σ H s) :
    PySem.W.Looks (model X.prog X.w) s.heap (typeOf (.ref a)) cls := fun A Q E s1 k q =>
  wpAny_typeOf_ref (k _ _ (I.pin (a, oe) (List.mem_append_left _ List.mem_cons_self)).1) (by rw [z.1]; exact q)
theorem asks_one {x : Str} {c : Value} {np : Pos} (hc : Names X x c) : Asks X (.Name x np) fun cls b => PySem.W.exmOne X.K cls c = some b := by
  intro a oe cls d pn pins σ H s Q E b z f I e q
  exact name_is hc I (q c s.heap s.toks (fun _ _ z => z) (PySem.W.exm_one (M := model X.prog X.w) I.kIn (exc_class z I) e))
theorem asks_two {x y : Str} {c e : Value} {p1 p2 tp : Pos} {kk : Nat} (hc : Names X x c) (he : Names X y e) : Asks X (.Tuple [.Name x p1, .Name y p2] kk tp) fun cls b => PySem.W.exmAny X.K cls [c, e] = some b := by
  intro a oe cls d pn pins σ H s Q E b z f I ok q
  refine wpAny_Tuple (wpAny_items_cons (name_is hc I (wpAny_items_cons (name_is he I (wpAny_items_nil ⟨by size_fits, ?_⟩)))))
  have more : ∀ q o, s.heap.get? q = some o → (s.heap.push { cls := .type "tuple", data := .seq [c, e].toArray }).get? q = some o := fun _ _ z => Heap.get?_push_of_some _ z
  exact q (.ref s.heap.objs.size) _ s.toks more (PySem.W.exm_tup2 (I.kIn.keeps more) ((exc_class z I).keeps more) (Heap.get?_push_size s.heap rfl) ok)
end
abbrev Cl := (Value → Bool → Prop) × Option Nat × (Addr → Value → Option Addr → TS)
def endsOf (n : Option Nat) (D : Ends) : Ends := match n with
  | none => D
  | some i => { nx := fun σ G => D.nx (σ.set i none) G, rt := D.rt, bk := fun σ G => D.bk (σ.set i none) G, ct := fun σ G => D.ct (σ.set i none) G }
def slotOf (n : Option Nat) (a : Addr) (σ : L2.St) : L2.St := match n with
  | none => σ
  | some i => σ.set i (some (.ref a))
/-- what the clauses wish of an exception of the body -/
def wCl (out : WX) (D : Ends) : List Cl → WX
  | [] => out
  | (ok, n, ts) :: r => fun cls d σ H => ∃ b, ok cls b ∧ (b = true → ∀ a, H a = none → ts a cls d (endsOf n D) (slotOf n a σ) H) ∧ (b = false → wCl out D r cls d σ H)
def SuiteOk (X : Cx) (body : List Stmt) (ts : Addr → Value → Option Addr → TS) : Prop :=
  ∀ (a : Addr) (oe : Obj) (cls : Value) (d : Option Addr) (pn : List (Addr × Obj)), Zc cls d oe → (∃ vs, oe.data = .fields vs) → PSs (X.suite a ((a, oe) :: pn)) body (ts a cls d)
inductive ClOk (X : Cx) : List ExceptHandler → List Cl → Prop
  | nil : ClOk X [] []
  | plain {t : Expr} {ok : Value → Bool → Prop} {ts : Addr → Value → Option Addr → TS} {b₀ : Stmt} {suite : List Stmt} {pos : Pos} {hs : List ExceptHandler} {l : List Cl} :
      Asks X t ok → SuiteOk X (b₀ :: suite) ts → ClOk X hs l → ClOk X (.ExceptHandler (some t) none (b₀ :: suite) pos :: hs) ((ok, none, ts) :: l)
  | named {t : Expr} {ok : Value → Bool → Prop} {i : Nat} {n : Str} {ts : Addr → Value → Option Addr → TS} {b₀ : Stmt} {suite : List Stmt} {pos : Pos} {hs : List ExceptHandler} {l : List Cl} :
      X.N.Nodup → X.N[i]? = some n → X.env.kindOf n = some .local → Asks X t ok → SuiteOk X (b₀ :: suite) ts → ClOk X hs l → ClOk X (.ExceptHandler (some t) (some n) (b₀ :: suite) pos :: hs) ((ok, some i, ts) :: l)
section
variable {X : Cx} {pins : List (Addr × Obj)} {D : Ends} {out : WX}
theorem clauses (ok : X.Ok) (one : X.stack = X.env :: X.outer) (own : X.env.frame = some X.env.locals) (tk : Takes X out) {a : Addr} {B : Heap} {sI : Shared} {σ : L2.St} {H : Hp} {cls : Value} {d : Option Addr}
    (J : Inv X pins σ H sI) (nb : ∀ b o, sI.heap.get? b = some o → b ∉ frs X.stack → B.get? b = some o) (na : H a = none) :
    ∀ {hs : List ExceptHandler} {l : List Cl}, ClOk X hs l → wCl out D l cls d σ H → ∀ s3 : Shared, PySem.HandSPX.FlyingZ B (X.env :: X.outer) a (Zc cls d) s3.heap → sI.heap.UpToSlots s3.heap → s3.os = sI.os → AllBare s3.gens →
      wpAny (model X.prog X.w) X.A (handleBy (.ref a) X.env hs) (SP X pins D) X.xe s3 := by
  intro hs l cl
  -- the exception's object, apart from all frames
  have apart : ∀ {h : Heap}, PySem.HandSPX.FlyingZ B (X.env :: X.outer) a (Zc cls d) h → ∃ oe vs, h.get? a = some oe ∧ Zc cls d oe ∧ oe.data = .fields vs ∧ a ≠ X.env.locals ∧ a ∉ X.fs := by
    intro h fl
    obtain ⟨oe, vs, e, z, dd⟩ := fl.there
    have no : a ∉ frs (X.env :: X.outer) := fun m => by
      obtain ⟨_, o2, e2, nf⟩ := fl.2.2.1.mem m
      rw [e] at e2
      cases e2
      exact nf _ dd
    refine ⟨oe, vs, e, z, dd, fun q => no ?_, fun m => no ?_⟩
    · exact List.mem_filterMap.mpr ⟨X.env, List.mem_cons_self, by rw [own, q]⟩
    · obtain ⟨en, h1, h2⟩ := List.mem_filterMap.mp m
      exact List.mem_filterMap.mpr ⟨en, List.mem_cons_of_mem _ h1, h2⟩
  have landed : ∀ {s3 : Shared}, PySem.HandSPX.FlyingZ B (X.env :: X.outer) a (Zc cls d) s3.heap → sI.heap.UpToSlots s3.heap → s3.os = sI.os → AllBare s3.gens → Inv X pins σ H s3 :=
    fun fl up os ag => J.landed nb fl.1 up os ag
  -- a suite that runs, from the state behind a test that is answered with yes
  have run : ∀ {b₀ : Stmt} {body : List Stmt} {ts : Addr → Value → Option Addr → TS} {σ2 : L2.St} {D2 : Ends} {s4 : Shared} {R : Flow → Shared → Prop} {E : Value → Shared → Prop} {oe : Obj}, SuiteOk X (b₀ :: body) ts →
      Zc cls d oe → (∃ vs, oe.data = .fields vs) → Inv (X.suite a ((a, oe) :: (X.pn ++ pins))) [] σ2 H s4 → ts a cls d D2 σ2 H →
      (∀ f s5, SP (X.suite a ((a, oe) :: (X.pn ++ pins))) [] D2 f s5 → R f s5) → wpAny (model X.prog X.w) (X.A.mark (some (.ref a))) (execs (b₀ :: body) X.env) R E s4 := by
    intro b₀ body ts σ2 D2 s4 R E oe su z f S ho hq
    exact wpAny_mono ((su a oe cls d (X.pn ++ pins) z f).run [] s4 σ2 H D2 S ho) hq fun _ _ z => z.elim
  induction cl with
  | nil =>
    intro w s3 fl up os ag
    refine wpAny_handleBy_nil ?_
    obtain ⟨_, _, _, oe, vs, T, oT, ts, e, _, dd, h1, _⟩ := id fl
    unfold PySem.passOn
    refine wpAny_bind (wpAny_field e dd h1 ?_)
    rw [if_neg (by simp)]
    have last : wpAny (model X.prog X.w) X.A (setFlight (.ref a) X.env.frame) (fun _ s4 => wpAny (model X.prog X.w) X.A (throw (.ref a) : Sem Flow) (SP X pins D) X.xe s4) X.xe s3 := by
      rw [own]
      refine PySem.HandSPX.setFlight_upZ fl fun h4 f4 u4 => wpAny_throw (tk _ _ ⟨a, B, sI, pins, σ, H, cls, d, rfl, J, nb, up.trans u4, .inr (.inr (by rw [one]; exact f4)), na, os, ag, w⟩)
    first
      | exact wpAny_bind last
      | exact wpAny_bind (wpAny_pure (wpAny_bind last))
  | @plain t okc ts b₀ suite pos hs l ask su _ ih =>
    intro w s3 fl up os ag
    obtain ⟨b, hb, yes, no⟩ := w
    obtain ⟨oe, vs, e, z, dd, nL, nF⟩ := apart fl
    have S := (landed fl up os ag).suite e dd na nL nF
    refine PySem.W.exc_clause (ask a oe cls d (X.pn ++ pins) [] σ H s3 _ _ b z ⟨_, dd⟩ S hb fun c h4 t4 k4 lk => ⟨b, lk, ?_⟩)
    have fl4 := flying_more fl k4
    have up4 := up.trans (upToSlots_more k4)
    cases b with
    | false => exact ih (no rfl) { s3 with heap := h4, toks := t4 } fl4 up4 os ag
    | true =>
      rw [if_pos rfl]
      refine PySem.HandSPX.lands_againZ (s := { s3 with heap := h4, toks := t4 }) fl4 fun h5 fl5 up5 => ?_
      obtain ⟨oe5, vs5, e5, z5, dd5, nL5, nF5⟩ := apart fl5
      have S5 := (landed (s3 := { s3 with heap := h5, toks := t4 }) fl5 (up4.trans up5) os ag).suite e5 dd5 na nL5 nF5
      refine run su z5 ⟨_, dd5⟩ S5 (yes rfl a na) fun f s6 hs6 => ?_
      cases f with
      | next => obtain ⟨σ6, H6, S6, q⟩ := hs6; exact ⟨σ6, H6, S6.unsuite ok, q⟩
      | brk => obtain ⟨σ6, H6, S6, q⟩ := hs6; exact ⟨σ6, H6, S6.unsuite ok, q⟩
      | cont => obtain ⟨σ6, H6, S6, q⟩ := hs6; exact ⟨σ6, H6, S6.unsuite ok, q⟩
      | ret u => obtain ⟨v, σ6, H6, S6, r, q⟩ := hs6; exact ⟨v, σ6, H6, S6.unsuite ok, r, q⟩
  | @named t okc i n ts b₀ suite pos hs l nd hi loc ask su _ ih =>
    intro w s3 fl up os ag
    obtain ⟨b, hb, yes, no⟩ := w
    obtain ⟨oe, vs, e, z, dd, nL, nF⟩ := apart fl
    have S := (landed fl up os ag).suite e dd na nL nF
    refine PySem.W.exc_clause_as (ask a oe cls d (X.pn ++ pins) [] σ H s3 _ _ b z ⟨_, dd⟩ S hb fun c h4 t4 k4 lk => ⟨b, lk, ?_⟩)
    have fl4 := flying_more fl k4
    have up4 := up.trans (upToSlots_more k4)
    cases b with
    | false => exact ih (no rfl) { s3 with heap := h4, toks := t4 } fl4 up4 os ag
    | true =>
      rw [if_pos rfl]
      refine PySem.HandSPX.lands_againZ (s := { s3 with heap := h4, toks := t4 }) fl4 fun h5 fl5 up5 => ?_
      obtain ⟨oe5, vs5, e5, z5, dd5, nL5, nF5⟩ := apart fl5
      have S5 := (landed (s3 := { s3 with heap := h5, toks := t4 }) fl5 (up4.trans up5) os ag).suite e5 dd5 na nL5 nF5
      refine store_ok (X := X.suite a ((a, oe5) :: (X.pn ++ pins))) (v := .ref a) S5 nd hi (.inl loc) rfl (fun s6 S6 => ?_) (.inr loc)
      refine run su z5 ⟨_, dd5⟩ S6 (yes rfl a na) fun f s7 hs7 => ?_
      cases f with
      | next => obtain ⟨σ7, H7, S7, q⟩ := hs7; exact gone_ok (S7.unsuite ok) nd hi loc fun s8 J8 => ⟨_, H7, J8, q⟩
      | brk => obtain ⟨σ7, H7, S7, q⟩ := hs7; exact gone_ok (S7.unsuite ok) nd hi loc fun s8 J8 => ⟨_, H7, J8, q⟩
      | cont => obtain ⟨σ7, H7, S7, q⟩ := hs7; exact gone_ok (S7.unsuite ok) nd hi loc fun s8 J8 => ⟨_, H7, J8, q⟩
      | ret u => obtain ⟨v, σ7, H7, S7, r, q⟩ := hs7; exact gone_ok (S7.unsuite ok) nd hi loc fun s8 J8 => ⟨v, _, H7, J8, r, q⟩
theorem ps_tryCl {body : List Stmt} {h₀ : ExceptHandler} {hs : List ExceptHandler} {l : List Cl} {pos : Pos} {tb : WX → TS} (one : X.stack = X.env :: X.outer) (own : X.env.frame = some X.env.locals) (tk : Takes X out)
    (der : ∀ (W : WX) (pn : List (Addr × Obj)) (xe : Value → Shared → Prop), Takes (X.tr pn xe) W → PassesOwn (model X.prog X.w) X.A X.env xe → PSs (X.tr pn xe) body (tb W)) (cl : ClOk X (h₀ :: hs) l) :
    PS X (.Try body (h₀ :: hs) [] [] pos) fun D σ H => tb (wCl out D l) D σ H where
  run := by
    intro pins s σ H D I ho
    have ok := I.ok
    have fr : X.A.frames = some (X.env :: X.outer) := ok.frames.trans (by rw [one])
    refine wpAny_Try_except (wpAny_mono ((der (wCl out D l) (X.pn ++ pins) _ ?_ PassesOwn.looking).run [] s σ H D (I.toTry _) ho) (fun f s1 hs1 => ?_) fun e s1 z => z)
    · intro u s2 xx
      obtain ⟨a, B, sI, pins2, σ2, H2, cls, d, rfl, J2, nb, up, sky, na, os, ag, w⟩ := xx
      have J : Inv X pins σ2 H2 sI := J2.ofTry ok
      have sky2 : Sky B (X.env :: X.outer) a (Zc cls d) X.env.locals s2.heap := by rw [← one]; exact sky
      exact Sky.land Zc.steady fr own sky2 fun h3 fl3 up3 => clauses ok one own tk J nb na cl w { s2 with heap := h3 } fl3 (up.trans up3) os ag
    · cases f with
      | next => obtain ⟨σ1, H1, J, q⟩ := hs1; exact wpAny_execs_nil ⟨σ1, H1, J.ofTry ok, q⟩
      | brk => obtain ⟨σ1, H1, J, q⟩ := hs1; exact ⟨σ1, H1, J.ofTry ok, q⟩
      | cont => obtain ⟨σ1, H1, J, q⟩ := hs1; exact ⟨σ1, H1, J.ofTry ok, q⟩
      | ret u => obtain ⟨v, σ1, H1, J, r, q⟩ := hs1; exact ⟨v, σ1, H1, J.ofTry ok, r, q⟩
end
end PSG

set_option Elab.async false
set_option linter.all false
set_option maxRecDepth 100000
set_option maxHeartbeats 4000000
namespace PySem.W
open PySem PySem.Spec PySem.Calls PyProof.Rows
/-! ### isinstance of an exception of an own class, with or without attributes -/
/-- what the class must say -/
structure XcC (K : Frag) (D : Addr) : Prop where
  get : findIn K (.ref D) "__getattribute__" = some (some (.builtin "BaseException.__getattribute__"))
  get2 : findIn K (.ref D) "__getattr__" = some none
  exc : subIn K (.ref D) (.type "BaseException") = some true
  dict : hasDictIn K D = true
  cls : findIn K (.ref D) "__class__" = some (some (.builtin "object.__class__"))
  desc : specialIn K (.builtin "object.__class__") "__get__" = some (some (.builtin "getset_descriptor.__get__"))
  data : takesIn K (.builtin "object.__class__") = some true
  obj : mroIn K D (.type "object") = some true
theorem XcC.there {K : Frag} {D : Addr} (T : XcC K D) : ∃ o cd, K.lookup D = some o ∧ o.data = .cls cd := by
  obtain ⟨c1, e, _⟩ := any_some T.dict
  unfold clsIn at e
  cases q : K.lookup D with
  | none =>
    rw [q] at e
    cases e
  | some o =>
    obtain ⟨oc, od, dt, sl⟩ := o
    cases dt <;> (rw [q] at e; first | exact ⟨_, _, rfl, rfl⟩ | cases e)
section
variable {prog : Program} {w : World} {A : Around} {E : Value → Shared → Prop} {s : Shared} {K : Frag} {x D : Addr} {ox : Obj} {od : Option Obj}
theorem XcC.asked {Q : Option Value → Shared → Prop} (T : XcC K D) (X : K.In s.heap) (I : InstAt s.heap x ox D od) (ho : Q (some (.ref D)) { s with toks := s.toks + 1 }) :
    wpAny (model prog w) A (getAttr? (.ref x) "__class__") Q E s := by
  have found : findObj K D od "__class__" = some (.bind (.builtin "getset_descriptor.__get__") (.builtin "object.__class__")) := by
    obtain ⟨cd, c, _⟩ := any_some T.dict
    unfold findObj
    simp [c, T.cls, T.desc, T.data]
  obtain ⟨hp, g, dr, t, os⟩ := s
  have k1 := I.type (M := model prog w)
  have k2 := looks_findIn (M := model prog w) X T.get
  have k3 := looks_findIn (M := model prog w) X T.get2
  have k4 := looks_find (M := model prog w) X I found
  have k5 : Looks (model prog w) hp (isInstance (.ref x) (.type "BaseException")) true := k1.andThen (looks_subIn X T.exc)
  have no : (onTheHeap (Value.ref D) && Value.builtin "BaseException.__getattribute__" == Value.builtin "object.__getattribute__") = false := by
    show (Value.builtin "BaseException.__getattribute__" == Value.builtin "object.__getattribute__") = false
    decide +kernel
  have no2 : (false && onTheHeap (Value.builtin "BaseException.__getattribute__")) = false := rfl
  unfold getAttr?
  unfold getAttrBy?
  unfold getAttrBy
  refine wpAny_bind (wpAny_mkText (wpAny_bind (wpAny_attempt (wpAny_holding (wpAny_bind (k1.at (wpAny_bind (k2.at ?_))))))))
  show wpAny _ _ (if (onTheHeap (Value.ref D) && Value.builtin "BaseException.__getattribute__" == Value.builtin "object.__getattribute__") = true then _ else _) _ _ _
  rw [no]
  rw [if_neg (by decide)]
  unfold getAttrByItsOwn
  unfold hookBefore
  refine wpAny_bind ?_
  rw [if_pos (show onTheHeap (.ref D) = true from rfl)]
  refine k3.at (wpAny_bind (wpAny_attempt (wpAny_holding ?_)))
  unfold callGetattribute
  rw [no2]
  rw [if_neg (by decide)]
  unfold boundAndCalled
  rw [F.excAttr_ValueError.ga.bind (.ref x)]
  refine wpAny_bind (wpAny_pure ?_)
  show wpAny _ _ (call (.builtin "BaseException.__getattribute__") [.ref x, .str "__class__" t]) _ _ _
  refine wpAny_call (codeAny_call_builtin F.excAttr_ValueError.ga.plain F.entry_bexc_ga (@check_slot (model prog w) _ _ ⟨hp, g, dr, t + 1, os⟩ "BaseException.__getattribute__" "BaseException" "__getattribute__" (.ref x) [.str "__class__" t] [] _
    (by decide +kernel) (by decide +kernel) k5 (F.args_bexc_ga (.ref x) (.str "__class__" t)) ?_))
  unfold Builtin.«object.__getattribute__»
  refine wpAny_bind (wpAny_of_eq (a := ((Value.ref x : Value), [Value.str "__class__" t])) (by first | rfl | (simp only [slotArgs]; rfl)) (wpAny_bind (wpAny_pure (wpAny_bind (k1.at (wpAny_bind (k4.at ?_)))))))
  show wpAny _ _ (holding [Value.builtin "object.__class__"] (call (.builtin "getset_descriptor.__get__") [.builtin "object.__class__", .ref x, .ref D]) >>= ret) _ _ _
  refine wpAny_bind (wpAny_holding (wpAny_call (class_get (s := ⟨hp, g, dr, t + 1, os⟩) X I T.obj (wpAny_pure ?_))))
  show wpAny _ _ (handedOut (.ref D)) _ _ _
  rw [handedOut_of (v := .ref D) rfl]
  first
    | exact wpAny_pure ho
    | exact wpAny_pure (wpAny_pure ho)
    | exact wpAny_pure (wpAny_bind (wpAny_pure (wpAny_pure ho)))
theorem XcC.kit (T : XcC K D) : KitX K (.ref x) (.ref D) (fun h => ∃ od, InstAt h x ox D od) where
  ty := fun _ _ _ ⟨_, I⟩ => I.type
  it := fun M h X _ => by
    obtain ⟨o, cd, q, dd⟩ := T.there
    intro A2 Q2 E2 s2 k ho
    unfold isType
    unfold loadHead
    exact wpAny_bind (wpAny_loadPart (k _ _ (X _ _ q)) (by rw [dd]; exact wpAny_pure ho))
  ne := fun h tp dd its n sl X at_ => by
    obtain ⟨o, cd, q, d2⟩ := T.there
    cases z : (Value.ref D == Value.ref tp) with
    | false => rfl
    | true =>
      have e : D = tp := Value.ref.inj (beq_iff_eq.mp z)
      rw [← e, X _ _ q] at at_
      cases at_
      cases d2
  ca := fun X ⟨_, I⟩ ho => T.asked X I ho
end
end PySem.W

set_option Elab.async false
set_option linter.all false
set_option maxRecDepth 100000
set_option maxHeartbeats 4000000
/-! ### exceptions of own classes over any built-in base, as values -/
namespace PySem.XV
open PySem PySem.Spec PySem.W PySem.Calls PySem.HandSPX
section
variable {prog : Program} {w : World} {A : Around} {E : Value → Shared → Prop} {R : Result → Shared → Prop} {h : Heap} {g : Array GenState} {d : Drawn} {t : Nat} {os : OsState}
variable {nm q : Str} {C N : Addr} {bs bm bmB : List Value} {hdct : Bool} {sn : List Str} {sub : List Value} {ab : Bool} {col : Option Bool} {dd : Option Addr} {k0 k1 k2 k3 k5 : Option Value} {B newId initId : String}
theorem new_checked {M : Model} (F : ExcBaseFacts B newId initId bmB) (same : ∀ X : String, bm.contains (.type X) = bmB.contains (.type X)) {kw : List (Str × Value)} {Q : Unit → Shared → Prop}
    (at_ : h.get? C = some (excClassObj nm q C N bs bm hdct sn sub ab col dd k0 k1 k2 k3 k5 newId)) (ho : Q () ⟨h, g, d, t, os⟩) : wpAny M A (checkBuiltinCall newId ⟨[.ref C], kw⟩) Q E ⟨h, g, d, t, os⟩ := by
  have cB : (Value.ref C :: bm).contains (.type B) = true := by rw [List.contains_cons, same, F.hasB, Bool.or_true]
  have s0 := F.noStar
  simp only [checkBuiltinCall, F.newKind, F.newSplit, F.newRow]
  repeat (first
    | refine wpAny_loadPart_at at_ ?_
    | (refine wpAny_isSubtype_exc at_ ?_; rw [cB])
    | refine wpAny_staticBase_exc at_ ?_
    | refine wpAny_madeBy_exc at_ ?_
    | simp only [bne_self_eq_false, Bool.false_eq_true, if_false]
    | wp_step)
  exact ho
theorem new_kw (F : ExcBaseFacts B newId initId bmB) (same : ∀ X : String, bm.contains (.type X) = bmB.contains (.type X)) {kw : List (Str × Value)}
    (at_ : h.get? C = some (excClassObj nm q C N bs bm hdct sn sub ab col dd k0 k1 k2 k3 k5 newId))
    (ho : R (.ok (.ret (.ref (h.objs.size + 1)))) ⟨(h.push { cls := .type "tuple", data := .seq #[] }).push { cls := .ref C, data := .fields #[.ref h.objs.size, .none, .none, .none, .bool false, .none] }, g, d, t, os⟩) :
    codeAny (model prog w) A (.builtin newId ⟨[.ref C], kw⟩) R ⟨h, g, d, t, os⟩ := by
  have e0 := F.ends
  have cB : (Value.ref C :: bm).contains (.type B) = true := by rw [List.contains_cons, same, F.hasB, Bool.or_true]
  have cA : (Value.ref C :: bm).contains (.type "AttributeError") = false := by rw [List.contains_cons, same, F.noAttr]; rfl
  have cN : (Value.ref C :: bm).contains (.type "NameError") = false := by rw [List.contains_cons, same, F.noName]; rfl
  refine codeAny_builtinAt F.entry ?_
  unfold Builtin.«BaseException.__new__»
  refine wpAt_bind ?_
  show wpAt _ _ _ (stack >>= _) _ _ _
  refine wpAt_bind (wpAt_stack fun p below => wpAt_of_wpAny ?_)
  wp_walk
  refine wpAt_of_wpAny ?_
  rw [F.owner]
  repeat (first
    | with_reducible refine wpAny_madeHere_exc F.canon at_ ?_
    | with_reducible refine wpAny_loadPart_at at_ ?_
    | (with_reducible refine wpAny_isSubtype_exc at_ ?_; first | rw [cB] | rw [cA] | rw [cN])
    | wp_step)
  show R _ _
  rw [Heap.size_push]
  exact ho
theorem made_kw (F : ExcBaseFacts B newId initId bmB) (same : ∀ X : String, bm.contains (.type X) = bmB.contains (.type X)) {kw : List (Str × Value)} {fI : Addr} {Q : Fin → Shared → Prop}
    (at_ : h.get? C = some (excClassObj nm q C N bs bm hdct sn sub ab col dd k0 k1 k2 k3 k5 newId))
    (hi : W.Looks (model prog w) h (typeLookup (.ref C) "__init__") (some (.ref fI))) (hb : ∀ self, W.Looks (model prog w) h (bindSpecial (.ref fI) self) (.ref fI, [self]))
    (ho : codeAny (model prog w) A (.call (.ref fI) ⟨[.ref (h.objs.size + 1)], kw⟩)
      (fun r s' => match r with | .ok (.ret v) => v = .none ∧ Q (.done (.ret (.ref (h.objs.size + 1)))) s' | .ok _ => False | .error e => E e s')
      ⟨(h.push (W.kdv_tup [])).push (excO C h.objs.size), g, d, t, os⟩) :
    wpAny (model prog w) A (Builtin.«type.__call__» ⟨[.ref C], kw⟩) Q E ⟨h, g, d, t, os⟩ := by
  repeat (first | with_reducible refine wpAny_loadPart_at at_ ?_ | with_reducible refine wpAny_madeBy_exc at_ ?_ | wp_step)
  refine codeAny_call_builtin_code (Code.quiet_builtin _ F.quiet) (new_checked F same at_ (new_kw F same at_ ?_))
  show wpAny _ _ _ _ _ _
  have old : ∀ b o, h.get? b = some o → ((h.push (W.kdv_tup [])).push (excO C h.objs.size)).get? b = some o := fun b o e => Heap.get?_push_of_some _ (Heap.get?_push_of_some _ e)
  have at2 := old _ _ at_
  have new : ((h.push (W.kdv_tup [])).push (excO C h.objs.size)).get? (h.objs.size + 1) = some (excO C h.objs.size) := by heap_get
  have cC : (Value.ref C :: bm).contains (.ref C) = true := by simp
  have i1 := hi.keeps old
  have b1 := (hb (.ref (h.objs.size + 1))).keeps old
  unfold isInstance
  repeat (first | with_reducible refine wpAny_loadPart_at new ?_ | (with_reducible refine wpAny_isSubtype_exc at2 ?_; rw [cC]) | wp_step)
  show wpAny _ _ (typeLookup (.ref C) _) _ _ _
  refine i1.at (wpAny_holding (wpAny_bind (b1.at (wpAny_bind (wpAny_call (codeAny_mono ho fun r s' z => ?_))))))
  rcases r with e | (v | _ | _ | _) <;> first | exact z | exact z.elim | skip
  obtain ⟨rfl, z⟩ := z
  first
    | exact wpAny_pure (wpAny_pure z)
    | (wp_walk; exact z)
theorem call_kw (F : ExcBaseFacts B newId initId bmB) (same : ∀ X : String, bm.contains (.type X) = bmB.contains (.type X)) {kw : List (Str × Value)} {fI : Addr}
    (at_ : h.get? C = some (excClassObj nm q C N bs bm hdct sn sub ab col dd k0 k1 k2 k3 k5 newId))
    (hi : W.Looks (model prog w) h (typeLookup (.ref C) "__init__") (some (.ref fI))) (hb : ∀ self, W.Looks (model prog w) h (bindSpecial (.ref fI) self) (.ref fI, [self]))
    (ho : codeAny (model prog w) (A.under (.builtin "type.__call__" ⟨[.ref C], kw⟩)) (.call (.ref fI) ⟨[.ref (h.objs.size + 1)], kw⟩) (W.InitBack (h.objs.size + 1) R)
      ⟨(h.push (W.kdv_tup [])).push (excO C h.objs.size), g, d, t, os⟩) :
    codeAny (model prog w) A (.call (.ref C) ⟨[], kw⟩) R ⟨h, g, d, t, os⟩ := by
  have f1 := tc_lookup
  have f2 := tc_bind (.ref C)
  have isT : (⟨h, g, d, t, os⟩ : Shared).TypeIs (.ref C) "type" := ⟨_, at_, rfl⟩
  refine codeAny_of_tree ?_
  show wpAny _ _ (callAny (.ref C) _) _ _ _
  repeat (any_goals (first | assumption | with_reducible refine wpAny_loadPart_at at_ ?_ | wp_step))
  refine ⟨rfl, codeAny_call_builtin_at (Code.quiet_builtin _ (by decide +kernel)) entry_typeCall (wpAny_check_type_call_sub at_ (made_kw F same at_ hi hb (codeAny_mono ho fun r s' z => ?_)))⟩
  rcases r with e | (v | _ | _ | _) <;> exact z
end
end PySem.XV

set_option Elab.async false
set_option linter.all false
set_option maxRecDepth 100000
set_option maxHeartbeats 4000000
namespace PSG
open PySem PySem.Spec L2
open PyProof.Rows (IntsAre AllBare)
/-- what the written part says of an own exception class at C, whose __init__ is the def at fI -/
structure Xk (K : PySem.W.Frag) (C fI : Addr) (B newId initId : String) (bmB : List Value) : Prop where
  fb : ExcBaseFacts B newId initId bmB
  sf : StoreFacts B bmB "object.__setattr__" "object"
  made : PySem.W.excInitIn K C bmB newId = true
  over : PySem.W.excOver K C bmB = true
  dict : PySem.W.hasDictIn K C = true
  set : PySem.W.findIn K (.ref C) "__setattr__" = some (some (.builtin "object.__setattr__"))
  init : PySem.W.findIn K (.ref C) "__init__" = some (some (.ref fI))
  fn : PySem.W.typeIn K (.ref fI) = some (.type "function")
  keep : PySem.W.keepIn K (.ref C) = true
  exc : PySem.W.subIn K (.ref C) (.type "BaseException") = some true
  ty : PySem.W.typeIn K (.ref C) = some (.type "type")
/-- at a: an exception of the class at C with these attributes (the last one stored first) -/
def ExV (H : Hp) (a C : Addr) (fs : List (Str × V)) : Prop :=
  (fs = [] ∧ H a = some (exo a C none)) ∨ ∃ d, fs ≠ [] ∧ H a = some (exo a C (some d)) ∧ H d = some (exd d fs)
theorem ExV.same {H H' : Hp} {a C : Addr} {fs : List (Str × V)} (x : ExV H a C fs) (s : Same H H') : ExV H' a C fs := by
  rcases x with ⟨e, h⟩ | ⟨d, e, h, h2⟩
  · exact .inl ⟨e, s _ _ h⟩
  · exact .inr ⟨d, e, s _ _ h, s _ _ h2⟩
end PSG
namespace PySem.XV
open PySem PySem.Spec PySem.W PySem.Calls PySem.HandSPX Builtin Builtin.ObjectAttr
section
variable {prog : Program} {w : World} {A : Around} {E : Value → Shared → Prop} {R : Result → Shared → Prop} {hp : Heap} {g : Array GenState} {d : Drawn} {t : Nat} {os : OsState}
/-- self.name = v, the first one -/
theorem store_first {K : W.Frag} {B : String} {bmB : List Value} {name : Str} {tk : Tok} {v : Value} {x C : Addr} {fv : Array Value} (SF : StoreFacts B bmB "object.__setattr__" "object") (ov : excOver K C bmB = true) (hd : hasDictIn K C = true)
    (X : K.In hp) (hx : hp.get? x = some { cls := .ref C, data := .fields fv }) (ha : W.findIn K (.ref C) name = some none)
    (hq : ∀ h' tk' dx, (∀ b o, b ≠ x → hp.get? b = some o → h'.get? b = some o) → hp.objs.size ≤ dx → dx ≠ x → h'.get? x = some { cls := .ref C, dict := some dx, data := .fields fv } →
      h'.Ns1 dx (fun y => if y = name then some v else none) → R (.ok (.ret .none)) ⟨h', g, d, tk', os⟩) :
    codeAny (model prog w) A (.call (.builtin "object.__setattr__") ⟨[.ref x, .str name tk, v], []⟩) R ⟨hp, g, d, t, os⟩ := by
  have I : W.InstAt hp x { cls := .ref C, data := .fields fv } C none := ⟨hx, rfl, rfl, trivial⟩
  have ne : x ≠ hp.objs.size := Nat.ne_of_lt (Heap.lt_size hx)
  have tak : takerIn K C name = some none := by unfold takerIn; rw [ha]; rfl
  obtain ⟨cd, hcd, hh⟩ := any_some hd
  refine osa_openX SF X I ov tak fun b => ?_
  have lc : W.Looks (model prog w) hp (classData C) cd := W.looks_clsIn X hcd
  obtain ⟨nm, bs, mro, ns, qn, hdd, sn, sb, ab, col, del⟩ := cd
  dsimp only at hh
  subst hh
  show wpAny _ _ (storeInOwnDict (.ref x) (.ref C) (.str name tk) name v b) _ _ _
  unfold storeInOwnDict
  unfold ownDictForStores
  repeat (first
    | with_reducible refine store_in_new ?_ ?_
    | with_reducible refine wpAny_loadPart_at hx ?_
    | with_reducible refine lc.at ?_
    | wp_step)
  · exact ⟨_, #[], _, (Heap.get?_update_ne _ _ _ _ ne.symm).trans (Heap.get?_push_at rfl rfl), rfl, fun e he => absurd he (by simp), fun _ => rfl⟩
  · intro h' tk' hn' hs
    have hx1 : (hp.push { cls := .type "dict", data := .dict #[] }).get? x = some { cls := .ref C, data := .fields fv } := Heap.get?_push_of_some _ hx
    refine hq h' tk' hp.objs.size (fun c o hc ho => ?_) (Nat.le_refl _) ne.symm ((hs.2 x ne).trans (Heap.get?_update_self _ hx1 rfl)) hn'
    exact (hs.2 c (Nat.ne_of_lt (Heap.lt_size ho))).trans ((Heap.get?_update_ne _ _ _ _ hc).trans (Heap.get?_push_of_some _ ho))
/-- self.name = v, a further one -/
theorem store_next {K : W.Frag} {B : String} {bmB : List Value} {name : Str} {tk : Tok} {v : Value} {x C dx : Addr} {fv : Array Value} {m0 : Str → Option Value} {nl : List Str} (SF : StoreFacts B bmB "object.__setattr__" "object") (ov : excOver K C bmB = true) (hd : hasDictIn K C = true)
    (X : K.In hp) (hx : hp.get? x = some { cls := .ref C, dict := some dx, data := .fields fv }) (hns : hp.Ns1 dx m0) (hw : Within m0 nl) (hz : nl.length ≤ 1000) (ha : W.findIn K (.ref C) name = some none)
    (hq : ∀ h' tk', (∀ b o, b ≠ dx → hp.get? b = some o → h'.get? b = some o) → h'.Ns1 dx (fun y => if y = name then some v else m0 y) → R (.ok (.ret .none)) ⟨h', g, d, tk', os⟩) :
    codeAny (model prog w) A (.call (.builtin "object.__setattr__") ⟨[.ref x, .str name tk, v], []⟩) R ⟨hp, g, d, t, os⟩ := by
  obtain ⟨oD, _, _, hoD, _, _⟩ := hns.count hw
  have I : W.InstAt hp x { cls := .ref C, dict := some dx, data := .fields fv } C (some oD) := ⟨hx, rfl, rfl, hoD⟩
  have tak : takerIn K C name = some none := by unfold takerIn; rw [ha]; rfl
  obtain ⟨cd, hcd, hh⟩ := any_some hd
  refine osa_openX SF X I ov tak fun b => ?_
  have lc : W.Looks (model prog w) hp (classData C) cd := W.looks_clsIn X hcd
  obtain ⟨nm, bs, mro, ns, qn, hdd, sn, sb, ab, col, del⟩ := cd
  dsimp only at hh
  subst hh
  show wpAny _ _ (storeInOwnDict (.ref x) (.ref C) (.str name tk) name v b) _ _ _
  unfold storeInOwnDict
  unfold ownDictForStores
  repeat (first
    | with_reducible refine PySem.OEX.store_in_old hns hw hz ?_
    | with_reducible refine wpAny_loadPart_at hx ?_
    | with_reducible refine lc.at ?_
    | wp_step)
  exact fun h' tk' hn' hs => hq h' tk' (fun c o hc ho => (hs.2 c hc).trans ho) hn'
end
end PySem.XV
namespace PSG
open PySem PySem.Spec L2
open PyProof.Rows (IntsAre AllBare)
section
variable {X : Cx} {pins : List (Addr × Obj)} {σ : L2.St} {H : Hp} {s : Shared} {a C fI dx : Addr} {f : Str} {y : V} {u : Value} {fs : List (Str × V)} {Q : Unit → Shared → Prop} {E : Value → Shared → Prop} {A : Around} {B newId initId : String} {bmB : List Value}
theorem xset_first (T : Xk X.K C fI B newId initId bmB) (I : Inv X pins σ H s) (e : H a = some (exo a C none)) (no : PySem.W.findIn X.K (.ref C) f = some none) (ry : RelV y u)
    (ho : ∀ dx s', H dx = none → dx ≠ a → Inv X pins σ (upd (upd H dx (exd dx [(f, y)])) a (exo a C (some dx))) s' → Q () s') : wpAny (model X.prog X.w) A (setAttr (.ref a) f u) Q E s := by
  obtain ⟨t1, ob⟩ := exo_at I.hok e
  obtain ⟨hp, g, d, t, os⟩ := s
  refine PySem.W.set_plain I.kIn (ox := { cls := .ref C, dict := none, data := .fields #[.ref t1, .none, .none, .none, .bool false, .none] }) (od := none) ⟨ob, rfl, rfl, trivial⟩ T.set ?_
  refine PySem.XV.store_first T.sf T.over T.dict I.kIn ob no fun h' tk' dx k dn dne hx hn => ?_
  have free : H dx = none := I.hok.fresh dn
  have old : ∀ {b : Addr} {o : Obj}, hp.get? b = some o → b ≠ dx := fun {b o} q => Nat.ne_of_lt (Nat.lt_of_lt_of_le (Heap.lt_size q) dn)
  have off : ∀ {b : Addr}, H b = none → b ≠ a := fun {b} n z => by
    rw [z, e] at n
    cases n
  refine ho dx _ free dne (I.un (t' := tk') ?_ fun b o q => ?_)
  · exact {
      keep := fun b o q n _ _ => k b o (off n) q
      slot := fun b o q n _ _ => ⟨o.slots, k b o (off n) q⟩
      free := fun b o q n _ => (upd_ne (off n)).trans ((upd_ne (old q)).trans n)
      there := fun b o q _ => if hb : b = a then ⟨_, hb ▸ hx⟩ else ⟨o, k b o hb q⟩
      tups := fun b xs q => (upd_ne (at_ne e q exo_tup)).trans ((upd_ne (ne_of_none q free)).trans q)
      frzs := fun b o v q => (upd_ne (at_ne e q exo_frz)).trans ((upd_ne (ne_of_none q free)).trans q)
      tbls := fun b ps q => ⟨#[], by rw [upd_ne (at_ne e q exo_tbl), upd_ne (ne_of_none q free), q]; simp⟩ }
  · by_cases hb : b = a
    · rw [hb, upd_same] at q
      cases q
      rw [hb]
      exact exo_ok hx
    · rw [upd_ne hb] at q
      by_cases hd : b = dx
      · rw [hd, upd_same] at q
        cases q
        rw [hd]
        exact exd_ok hn (relO_put (fs := []) ry fun _ => True.intro)
      · rw [upd_ne hd] at q
        refine (I.hok b o q).stay (fun c v hc z => k c v ?_ z) (fun c hc => ?_) fun c xs hc => ?_
        · rcases hc with hc | hc
          · rw [hc]
            exact hb
          · exact at_ne e hc exo_own
        · rw [upd_ne (at_ne e hc exo_own), upd_ne (ne_of_none hc free)]
          exact hc
        · rw [upd_ne (at_ne e hc exo_tup), upd_ne (ne_of_none hc free)]
          exact hc
theorem xset_next (T : Xk X.K C fI B newId initId bmB) (I : Inv X pins σ H s) (e : H a = some (exo a C (some dx))) (ed : H dx = some (exd dx fs)) (hl : fs.length ≤ 900) (no : PySem.W.findIn X.K (.ref C) f = some none) (ry : RelV y u)
    (ho : ∀ s', Inv X pins σ (upd H dx (exd dx ((f, y) :: fs))) s' → Q () s') : wpAny (model X.prog X.w) A (setAttr (.ref a) f u) Q E s := by
  obtain ⟨t1, ob⟩ := exo_at I.hok e
  obtain ⟨mA, hns, rel⟩ := exd_at I.hok ed
  have hw := within_of rel
  obtain ⟨hp, g, d, t, os⟩ := s
  obtain ⟨oD, _, _, hoD, _, _⟩ := hns.count hw
  refine PySem.W.set_plain I.kIn (ox := { cls := .ref C, dict := some dx, data := .fields #[.ref t1, .none, .none, .none, .bool false, .none] }) (od := some oD) ⟨ob, rfl, rfl, hoD⟩ T.set ?_
  refine PySem.XV.store_next T.sf T.over T.dict I.kIn ob hns hw (by rw [List.length_map]; omega) no fun h' tk' k hn => ?_
  have hd : ∃ o, h'.get? dx = some o := by
    obtain ⟨o, _, _, e', _⟩ := hn
    exact ⟨o, e'⟩
  exact ho _ (I.write (t' := tk') (x := dx) (e := dx) (o := exd dx ((f, y) :: fs)) (by rw [ed]; exact True.intro) (.inl rfl) k hd (exd_ok hn (relO_put ry rel)))
end
/-- self.f = e in such an __init__ -/
def tXset (K : PySem.W.Frag) (f : Str) (to te : TE) : TS := fun D σ H => te σ H fun y H1 => to σ H1 fun x H2 => ∃ (a C fI : Addr) (B newId initId : String) (bmB : List Value), x = .ref a ∧ Xk K C fI B newId initId bmB ∧ PySem.W.findIn K (.ref C) f = some none ∧
  ((H2 a = some (exo a C none) ∧ ∀ dx, H2 dx = none → dx ≠ a → D.nx σ (upd (upd H2 dx (exd dx [(f, y)])) a (exo a C (some dx)))) ∨
    ∃ (dx : Addr) (fs : List (Str × V)), H2 a = some (exo a C (some dx)) ∧ H2 dx = some (exd dx fs) ∧ fs.length ≤ 900 ∧ D.nx σ (upd H2 dx (exd dx ((f, y) :: fs))))
section
variable {X : Cx} {o e : Expr} {to te : TE} {f : Str} {p' pos : Pos}
theorem ps_xset (ho : PE X o to) (he : PE X e te) (hs : swapsWith e (some (.Attribute o f p')) pos.line X.env = pure false := by rfl) : PS X (.Assign [.Attribute o f p'] e pos) (tXset X.K f to te) where
  run := fun pins s σ H D I h => by
    refine plainObj_wpAny_Assign_Attribute (thn (he.run pins s σ H _ I h) fun v s1 ⟨y, H1, I1, r1, q1⟩ => thn (ho.run pins s1 σ H1 _ I1 q1) fun u s2 ⟨x, H2, I2, r2, a, C, fI, B, newId, initId, bmB, ex, T, no, q⟩ => ?_) hs
    subst ex
    cases r2
    rcases q with ⟨ea, q⟩ | ⟨dx, fs, ea, ed, hl, q⟩
    · exact xset_first T I2 ea no r1 fun dx s' n ne J => ⟨σ, _, J, q dx n ne⟩
    · exact xset_next T I2 ea ed hl no r1 fun s' J => ⟨σ, _, J, q⟩
end
/-! ### the promise of such an __init__, and the call of the class -/
/-- the attributes fn of the new exception are the arguments -/
def spXI (C : Addr) (fn : List Str) : Sp := fun vs H Q _ => ∃ (a : Addr) (ws : List V), vs = .ref a :: ws ∧ ws.length = fn.length ∧ H a = some (exo a C none) ∧
  ∀ H2, (∀ b o, b ≠ a → H b = some o → H2 b = some o) → ExV H2 a C (fn.zip ws).reverse → Q .non H2
def tXmk (C : Addr) (fn : List Str) (t : TA) : TE := fun σ H Q => t σ H fun vs H1 => vs.length = fn.length ∧ fn.length ≤ 1000 ∧ ∀ a H2, H1 a = none → Same H1 H2 → ExV H2 a C (fn.zip vs).reverse → Q (.ref a) H2
section
variable {X : Cx} {CT : CXT} {x : Str} {C fI : Addr} {n : Nat} {fd : FuncData} {ps fn : List Str} {B newId initId : String} {bmB : List Value} {p pos : Pos}
/-- the new object, its __init__ called, tracked -/
theorem xmade {pins : List (Addr × Obj)} {σ : L2.St} {H1 : Hp} {hp : Heap} {g : Array GenState} {dr : Drawn} {tk : Nat} {os : OsState} {Q : VK} {args : Args} {us : List Value} {vs : List V} (T : Xk X.K C fI B newId initId bmB)
    (F : FnOk X.prog X.w X.K X.mg X.base CX0 n fI fd ps (spXI C fn)) (room : Room (n + 1) X.A) (I1 : Inv X pins σ H1 ⟨hp, g, dr, tk, os⟩) (lay : List Value) (kw : List (Str × Value))
    (bi : ∀ s : Shared, X.K.In s.heap → BindsTo s fd args (ps.zip (.ref (hp.objs.size + 1) :: us))) (va : Vals vs us) (len : vs.length = fn.length)
    (ho : ∀ a H2, H1 a = none → Same H1 H2 → ExV H2 a C (fn.zip vs).reverse → Q (.ref a) H2) :
    codeAny (model X.prog X.w) (X.A.under (.builtin "type.__call__" ⟨.ref C :: lay, kw⟩)) (.call (.ref fI) args)
      (PySem.W.InitBack (hp.objs.size + 1) fun r s' => match r with | .ok (.ret v) => EP X pins σ Q v s' | .ok _ => False | .error e => X.xe e s')
      ⟨(hp.push (PySem.W.kdv_tup lay)).push (PySem.HandSPX.excO C hp.objs.size), g, dr, tk, os⟩ := by
  have big : hp.objs.size ≤ hp.objs.size + 1 := Nat.le_succ _
  have free : H1 (hp.objs.size + 1) = none := I1.hok.fresh big
  have old : ∀ b o, hp.get? b = some o → ((hp.push (PySem.W.kdv_tup lay)).push (PySem.HandSPX.excO C hp.objs.size)).get? b = some o := fun b o e => Heap.get?_push_of_some _ (Heap.get?_push_of_some _ e)
  have new : ((hp.push (PySem.W.kdv_tup lay)).push (PySem.HandSPX.excO C hp.objs.size)).get? (hp.objs.size + 1) = some (PySem.HandSPX.excO C hp.objs.size) := by heap_get
  have I2 : Inv X pins σ (upd H1 (hp.objs.size + 1) (exo (hp.objs.size + 1) C none)) ⟨(hp.push (PySem.W.kdv_tup lay)).push (PySem.HandSPX.excO C hp.objs.size), g, dr, tk, os⟩ :=
    I1.laid (t' := tk) (a := hp.objs.size + 1) (o := exo (hp.objs.size + 1) C none) (h' := (hp.push (PySem.W.kdv_tup lay)).push (PySem.HandSPX.excO C hp.objs.size)) old big (exo_ok new)
  have va2 : Vals (V.ref (hp.objs.size + 1) :: vs) (Value.ref (hp.objs.size + 1) :: us) := .cons rfl va
  refine codeAny_mono (F.run _ X.stack _ _ args (Value.ref (hp.objs.size + 1) :: us) _ (fun v H2 => v = .non ∧ Q (.ref (hp.objs.size + 1)) H2) (fun _ _ _ => False) (room.make C lay kw) (I2.env0.make C lay kw) (bi _ I2.kIn) va2
    ⟨_, vs, rfl, len, upd_same, fun H2 k ex => ⟨rfl, ho _ H2 free (fun b o e => ?_) ex⟩⟩) fun r s' z => ?_
  · have nb : b ≠ hp.objs.size + 1 := ne_of_none e free
    exact k b o nb ((upd_ne nb).trans e)
  · match r, z with
    | .ok (.ret u), z =>
      obtain ⟨v, G, J, rel, ev, q⟩ := I2.after z
      subst ev
      exact ⟨rel, .ref (hp.objs.size + 1), G, J, rfl, q⟩
    | .ok .next, z => exact z.elim
    | .ok .brk, z => exact z.elim
    | .ok .cont, z => exact z.elim
    | .error er, z => exact z.elim
theorem pe_xmk {e : Expr} {es : List Expr} {t : TA} (T : Xk X.K C fI B newId initId bmB) (F : FnOk X.prog X.w X.K X.mg X.base CX0 n fI fd ps (spXI C fn)) (room : Room (n + 1) X.A) (bi : Binds X.K fd ps []) (hps : ps.length = fn.length + 1)
    (hg : Gl X x) (hm : X.mg x = some (.ref C)) (ha : PA X (e :: es) t) (nd : (x == ("__debug__" : Str)) = false := by decide)
    (se : starEach (e :: es) X.env = (false, eval e X.env) :: starEach es X.env := by rfl) (sn : (backTo pos (starEach es X.env)).any (·.1) = false := by rfl) :
    PE X (.Call (.Name x p) (e :: es) [] pos) (tXmk C fn t) where
  run := fun pins s σ H Q I h => by
    refine wpAny_Call_Name_kw (ld_glob I hg hm ?_ nd)
    refine PySem.W.callWith_K (h₀ := X.base) I.ok.mod.kin T.keep (thn (ha.run pos pins s σ H _ I h) fun us s1 ⟨vs, H1, I1, r1, hl, hz, q1⟩ => ⟨I1.kIn, ?_⟩) se sn
    show wpAny _ _ (call (.ref C) us) _ _ _
    obtain ⟨hp, g, dr, tk, os⟩ := s1
    obtain ⟨nm, N, qn, bs, bm, hdct, sn, sub, ab, col, dd, k0, k1, k2, k3, k5, hC, same⟩ := PySem.W.excInit_of I1.kIn T.made
    have lu : us.length = fn.length := r1.length.symm.trans hl
    refine wpAny_call (PySem.HandSPX.call_own T.fb same hC (PySem.W.looks_findIn I1.kIn T.init) (fun self => PySem.W.bind_fn I1.kIn self T.fn) (by rw [sizeLine_eq]; omega) ?_)
    refine codeAny_mono (xmade (Q := Q) T F room I1 us [] (args := ⟨Value.ref (hp.objs.size + 1) :: us, []⟩) (us := us) (fun s2 k2 => ?_) r1 hl q1) fun r s' z => ?_
    · have z := bi s2 (Value.ref (hp.objs.size + 1) :: us) k2 (by rw [List.append_nil, List.length_cons, lu, hps])
      rw [List.append_nil] at z
      exact z
    · exact z
theorem pe_xmk0 (T : Xk X.K C fI B newId initId bmB) (F : FnOk X.prog X.w X.K X.mg X.base CX0 n fI fd ps (spXI C [])) (room : Room (n + 1) X.A) (bi : Binds X.K fd ps []) (hps : ps.length = 1)
    (hg : Gl X x) (hm : X.mg x = some (.ref C)) (nd : (x == ("__debug__" : Str)) = false := by decide) : PE X (.Call (.Name x p) [] [] pos) (tXmk C [] tNil) where
  run := fun pins s σ H Q I h => by
    refine wpAny_Call_Name_kw (ld_glob I hg hm ?_ nd)
    refine PySem.W.callWith_K0 I.kIn T.keep ?_
    obtain ⟨hp, g, dr, tk, os⟩ := s
    obtain ⟨nm, N, qn, bs, bm, hdct, sn, sub, ab, col, dd, k0, k1, k2, k3, k5, hC, same⟩ := PySem.W.excInit_of I.kIn T.made
    refine wpAny_call (PySem.HandSPX.call_own T.fb same hC (PySem.W.looks_findIn I.kIn T.init) (fun self => PySem.W.bind_fn I.kIn self T.fn) (Nat.zero_le _) ?_)
    refine codeAny_mono (xmade (Q := Q) (vs := []) T F room I [] [] (args := ⟨[Value.ref (hp.objs.size + 1)], []⟩) (us := []) (fun s2 k2 => ?_) .nil rfl h.2.2) fun r s' z => z
    have z := bi s2 [Value.ref (hp.objs.size + 1)] k2 (by rw [List.append_nil, hps]; rfl)
    exact z
/-- C(k = v, ..), keywords alone -/
theorem pe_xmkK {kws : List Keyword} {ks : List Str} {t : TA} (T : Xk X.K C fI B newId initId bmB) (F : FnOk X.prog X.w X.K X.mg X.base CX0 n fI fd ps (spXI C fn)) (room : Room (n + 1) X.A)
    (bi : ∀ (s : Shared) (u : Value) (ws : List Value), X.K.In s.heap → ws.length = ks.length → BindsTo s fd ⟨[u], ks.zip ws⟩ (ps.zip (u :: ws))) (lk : ks.length = fn.length)
    (hg : Gl X x) (hm : X.mg x = some (.ref C)) (ha : PK X kws t) (hall : (backToKw pos (keywordEach kws X.env)).all (·.1.isSome) = true := by rfl) (hks : (backToKw pos (keywordEach kws X.env)).filterMap (·.1) = ks := by rfl)
    (nd : (x == ("__debug__" : Str)) = false := by decide) (sn : ((backTo pos (starEach [] X.env)).any (·.1) || (backToKw pos (keywordEach kws X.env)).any (·.1.isNone)) = false := by rfl) :
    PE X (.Call (.Name x p) [] kws pos) (tXmk C fn t) where
  run := fun pins s σ H Q I h => by
    refine wpAny_Call_Name_kw (ld_glob I hg hm ?_ nd)
    refine PySem.W.callWith_KW0 (h₀ := X.base) I.ok.mod.kin T.keep hall (thn (ha.run pos pins s σ H _ I h) fun ws s1 ⟨vs, H1, I1, r1, hl, hz, q1⟩ => ⟨I1.kIn, ?_⟩) sn
    rw [hks]
    show wpAny _ _ (call (.ref C) [] (ks.zip ws)) _ _ _
    obtain ⟨hp, g, dr, tk, os⟩ := s1
    obtain ⟨nm, N, qn, bs, bm, hdct, sn, sub, ab, col, dd, k0, k1, k2, k3, k5, hC, same⟩ := PySem.W.excInit_of I1.kIn T.made
    have lu : ws.length = ks.length := (r1.length.symm.trans hl).trans lk.symm
    refine wpAny_call (PySem.XV.call_kw T.fb same hC (PySem.W.looks_findIn I1.kIn T.init) (fun self => PySem.W.bind_fn I1.kIn self T.fn) ?_)
    exact codeAny_mono (xmade (Q := Q) T F room I1 [] (ks.zip ws) (args := ⟨[Value.ref (hp.objs.size + 1)], ks.zip ws⟩) (us := ws) (fun s2 k2 => bi s2 _ ws k2 lu) r1 hl q1) fun r s' z => z
end
end PSG

set_option Elab.async false
set_option linter.all false
set_option maxRecDepth 100000
set_option maxHeartbeats 4000000
namespace PSG
open PySem PySem.Spec L2
open PyProof.Rows (IntsAre AllBare)
section
variable {X : Cx} {pins : List (Addr × Obj)} {σ : L2.St} {H : Hp} {s : Shared} {a C : Addr} {fs : List (Str × V)}
theorem exv_inst (I : Inv X pins σ H s) (x : ExV H a C fs) : ∃ ox od, PySem.W.InstAt s.heap a ox C od ∧ ((fs = [] ∧ od = none) ∨ ∃ dx o, od = some o ∧ H dx = some (exd dx fs) ∧ s.heap.get? dx = some o) := by
  rcases x with ⟨e, h⟩ | ⟨d, e, h, h2⟩
  · obtain ⟨t1, ob⟩ := exo_at I.hok h
    exact ⟨_, none, ⟨ob, rfl, rfl, trivial⟩, .inl ⟨e, rfl⟩⟩
  · obtain ⟨t1, ob⟩ := exo_at I.hok h
    obtain ⟨mA, hns, rel⟩ := exd_at I.hok h2
    obtain ⟨o, ho, _⟩ := lookIn_ns hns
    exact ⟨_, some o, ⟨ob, rfl, rfl, ho⟩, .inr ⟨d, o, rfl, h2, ho⟩⟩
/-- e.n, e an exception that stands -/
def tXfld (K : PySem.W.Frag) (n : Str) (te : TE) : TE := fun σ H Q => te σ H fun x H1 => ∃ (a C : Addr) (fs : List (Str × V)) (v : V), x = .ref a ∧ ExV H1 a C fs ∧ PySem.W.XcC K C ∧ PySem.W.findIn K (.ref C) n = some none ∧ fs.lookup n = some v ∧ Q v H1
theorem pe_xfld {e : Expr} {te : TE} {pos : Pos} {n : Str} (he : PE X e te) (hb : attributeBase e n X.env (eval e X.env) = eval e X.env := by rfl) : PE X (.Attribute e n pos) (tXfld X.K n te) where
  run := fun pins s σ H Q I h => by
    refine attr_of hb (thn (he.run pins s σ H _ I h) fun u s1 hh => ?_)
    obtain ⟨x, H1, I1, rx, a, C, fs, v, ex, V1, T, no, l, q⟩ := hh
    subst ex
    cases rx
    rcases V1 with ⟨e, h1⟩ | ⟨d, _, h1, h2⟩
    · rw [e] at l
      cases l
    · obtain ⟨t1, ob⟩ := exo_at I1.hok h1
      obtain ⟨mA, hns, rel⟩ := exd_at I1.hok h2
      obtain ⟨o, ho, look⟩ := lookIn_ns hns
      obtain ⟨w, hw, rw_⟩ := RelO.some_of (v := v) (o := mA n) (by rw [← l]; exact rel n)
      have J : PySem.W.InstAt s1.heap a _ C (some o) := ⟨ob, rfl, rfl, ho⟩
      exact PySem.HandSPX.exc_get I1.kIn J T.get T.get2 T.exc (PySem.W.findObj_own T.dict no rfl (by rw [look, hw])) (handed_of rw_) ⟨v, H1, I1.tok _, rw_, q⟩
/-- isinstance(e, c), e an exception that stands -/
def rXis (K : PySem.W.Frag) : List V → Hp → VK → Prop := fun xs H Q => ∃ (a C : Addr) (fs : List (Str × V)) (c : V) (u : Value) (b : Bool), xs = [.ref a, c] ∧ ClsV c u ∧ ExV H a C fs ∧ PySem.W.XcC K C ∧ PySem.W.kitOne K (.ref C) u = some b ∧ Q (.bl b) H
theorem call_xis : CallR X (.builtin "isinstance") (rXis X.K) := by
  intro pins s σ H xs us Q I r h
  obtain ⟨a, C, fs, c, u, b, rfl, k, x, T, e, q⟩ := h
  obtain ⟨u1, u2, rfl, r1, r2⟩ := vals2 r
  cases r1
  have e2 := k.eq r2
  subst e2
  obtain ⟨ox, od, J, _⟩ := exv_inst I x
  exact PySem.W.kia_one (T.kit (x := a) (ox := ox)) I.kIn ⟨od, J⟩ e (fun z => nomatch z) fun tk => ⟨.bl b, H, I.tok tk, rfl, q⟩
end
/-! ### lists that are new: not sys.modules -/
def tLstF (t : TA) : TE := fun σ H Q => t σ H fun xs H1 => xs.length ≤ sizeLine ∧ ∀ p, H1 p = none → p ≠ sysModules → Q (.ref p) (upd H1 p (.lst xs))
def rCatF : R2 := fun x y H Q => ∃ l b xs zs, x = .ref l ∧ y = .ref b ∧ H l = some (.lst xs) ∧ H b = some (.lst zs) ∧ xs.length + zs.length ≤ sizeLine ∧ ∀ p, H p = none → p ≠ sysModules → Q (.ref p) (upd H p (.lst (xs ++ zs)))
section
variable {X : Cx}
theorem pe_lstF {es : List Expr} {t : TA} {pos : Pos} (h : PA X es t) : PE X (.List es pos) (tLstF t) where
  run := fun pins s σ H Q I ho => by
    refine wpAny_List (thn (h.run pos pins s σ H _ I ho) fun us s1 ⟨xs, H1, I1, r, hz, q⟩ => ?_)
    have hl := r.length
    have new : s1.heap.objs.size ≠ sysModules := Nat.ne_of_gt I1.big
    exact ⟨by omega, .ref s1.heap.objs.size, _, I1.lnew (t' := s1.toks) r hz, rfl, q _ I1.fresh new⟩
theorem op_catF : OpR X (binaryOp .Add) rCatF := by
  intro pins s σ H x y v u Q I rx ry ho
  obtain ⟨l, b, xs, zs, rfl, rfl, h1, h2, hz, q⟩ := ho
  cases rx
  cases ry
  obtain ⟨_, is, _, r, _, e⟩ := I.lstM h1
  obtain ⟨_, js, _, r2, _, e2⟩ := I.lstM h2
  have l1 := r.length
  have l2 := r2.length
  refine PySem.P.add_list e e2 ?_ (by rw [List.size_toArray, List.size_toArray]; omega)
  rw [show is.toArray ++ js.toArray = (is ++ js).toArray by simp]
  have new : s.heap.objs.size ≠ sysModules := Nat.ne_of_gt I.big
  exact ⟨.ref s.heap.objs.size, _, I.lnew (t' := s.toks) (r.append r2) (by rw [List.length_append]; omega), rfl, q _ I.fresh new⟩
end
/-! ### heaps, data, draws -/
/-- what is tracked now and was not then -/
def news (B H : Hp) : Hp := fun b => match B b with | none => H b | some _ => none
theorem news_at {B H : Hp} {b : Addr} {o : HO} (h : B b = none) (e : H b = some o) : news B H b = some o := by
  unfold news
  rw [h]
  exact e
theorem news_of {B H : Hp} {b : Addr} {o : HO} (e : news B H b = some o) : B b = none ∧ H b = some o := by
  unfold news at e
  cases q : B b with
  | none =>
    rw [q] at e
    exact ⟨rfl, e⟩
  | some u =>
    rw [q] at e
    cases e
theorem news_sub {B H : Hp} : Same (news B H) H := fun _ _ e => (news_of e).2
mutual
theorem Dt.same {far : Bool} {H H' : Hp} (s : Same H H') : ∀ {v : V} {d : PyData}, Dt far H v d → Dt far H' v d
  | _, _, .non => .non
  | _, _, .bl b => .bl b
  | _, _, .int i => .int i
  | _, _, .str x => .str x
  | _, _, .lst e f t => .lst (s _ _ e) f (DtAll.same s t)
  | _, _, .tup e t => .tup (s _ _ e) (DtAll.same s t)
  | _, _, .dict e p => .dict (s _ _ e) p
theorem DtAll.same {far : Bool} {H H' : Hp} (s : Same H H') : ∀ {vs : List V} {ds : List PyData}, DtAll far H vs ds → DtAll far H' vs ds
  | _, _, .nil => .nil
  | _, _, .cons h t => .cons (Dt.same s h) (DtAll.same s t)
end
theorem DtAll.length {far : Bool} {H : Hp} : ∀ {vs : List V} {ds : List PyData}, DtAll far H vs ds → vs.length = ds.length
  | _, _, .nil => rfl
  | _, _, .cons _ t => congrArg Nat.succ (DtAll.length t)
theorem DtAll.append {far : Bool} {H : Hp} : ∀ {vs ws : List V} {ds es : List PyData}, DtAll far H vs ds → DtAll far H ws es → DtAll far H (vs ++ ws) (ds ++ es)
  | _, _, _, _, .nil, h => h
  | _, _, _, _, .cons h t, h2 => .cons h (DtAll.append t h2)
theorem DtAll.get {far : Bool} {H : Hp} : ∀ {vs : List V} {ds : List PyData} {i : Nat} {v : V}, DtAll far H vs ds → vs[i]? = some v → ∃ d, ds[i]? = some d ∧ Dt far H v d
  | _, _, i, _, .nil, e => by simp at e
  | _, _, 0, _, .cons h _, e => by
    have e' := Option.some.inj e
    subst e'
    exact ⟨_, rfl, h⟩
  | _, _, i + 1, _, .cons _ t, e => DtAll.get (i := i) t e
/-- all but the object at r is as it was -/
def But (r : Addr) (H H' : Hp) : Prop := ∀ b o, b ≠ r → H b = some o → H' b = some o
theorem But.refl {r : Addr} {H : Hp} : But r H H := fun _ _ _ e => e
theorem But.trans {r : Addr} {H H1 H2 : Hp} (a : But r H H1) (b : But r H1 H2) : But r H H2 := fun c o n e => b c o n (a c o n e)
theorem But.of {r : Addr} {H H' : Hp} (s : Same H H') : But r H H' := fun b o _ e => s b o e
theorem But.at {r : Addr} {H : Hp} {o : HO} : But r H (upd H r o) := fun b _ n e => (upd_ne n).trans e
theorem same_new {H : Hp} {p : Addr} {o : HO} (h : H p = none) : Same H (upd H p o) := fun b x e => (upd_ne (ne_of_none e h)).trans e
/-- at r: the two numbers that the draws are made of -/
def Rg (H : Hp) (r : Addr) : Prop := ∃ x y : Int, H r = some (.lst [.int x, .int y]) ∧ 0 ≤ x ∧ 0 ≤ y ∧ y < 2147483587
theorem Rg.some {H : Hp} {r : Addr} (g : Rg H r) : ∃ o, H r = some o := by
  obtain ⟨x, y, e, _⟩ := g
  exact ⟨_, e⟩
theorem Rg.new {H : Hp} {r p : Addr} {o : HO} (g : Rg H r) (h : H p = none) : Rg (upd H p o) r := by
  obtain ⟨x, y, e, z⟩ := g
  exact ⟨x, y, (upd_ne (ne_of_none e h)).trans e, z⟩
theorem Rg.same {H H' : Hp} {r : Addr} (g : Rg H r) (s : Same H H') : Rg H' r := by
  obtain ⟨x, y, e, z⟩ := g
  exact ⟨x, y, s _ _ e, z⟩
/-- what is new stays, where all that is not new may change -/
theorem news_but {B H H' : Hp} {r : Addr} (s : But r H H') (there : ∃ o, B r = some o) : Same (news B H) (news B H') := fun b o e => by
  obtain ⟨h1, h2⟩ := news_of e
  obtain ⟨u, hu⟩ := there
  exact news_at h1 (s b o (fun z => by rw [z, hu] at h1; cases h1) h2)
theorem news_up {B H H' : Hp} (d : ∀ b o, B b = some o → ∃ u, H b = some u) : Same (news H H') (news B H') := fun b o e => by
  obtain ⟨h1, h2⟩ := news_of e
  refine news_at ?_ h2
  cases q : B b with
  | none => rfl
  | some u =>
    obtain ⟨x, hx⟩ := d b u q
    rw [h1] at hx
    cases hx
theorem But.dom {r : Addr} {H H' : Hp} (s : But r H H') (g : ∃ o, H' r = some o) : ∀ b o, H b = some o → ∃ u, H' b = some u := fun b o e => by
  by_cases hb : b = r
  · rw [hb]
    exact g
  · exact ⟨o, s b o hb e⟩
/-- data with a short text, not deep -/
structure Nice (d : PyData) : Prop where
  sh : d.showable = true
  ln : d.shown.length ≤ 100
  dp : d.depth ≤ 6
end PSG

set_option Elab.async false
set_option linter.all false
set_option maxRecDepth 100000
set_option maxHeartbeats 4000000
/-! zip of two texts -/
namespace PSZ
open PySem
open PySem.Sem (wp)
section
variable {prog : Program} {w : World} {A : Around} {E : Value → Shared → Prop} {s : Shared}
def TextTy (ty : String) : Prop := ty = "str_ascii_iterator" ∨ ty = "str_iterator"
theorem text_item {ty : String} {p : Addr} {x : Str} {t : Tok} {i c : Nat} {Q : Value → Shared → Prop} (k : TextTy ty) (it : s.heap.IsStrIter p ty x t i) (e : x.cps[i]? = some c)
    (q : ∀ g, g.IsStrIter p ty x t (i + 1) → Heap.SameBut p s.heap g → Q (.str ⟨#[c]⟩ s.toks) { s with heap := g, toks := s.toks + 1 }) : wpAny (model prog w) A (Builtin.SmallTypes.nextOf (.ref p)) Q E s := by
  rcases k with rfl | rfl
  · exact wpAny_nextOf_ascii_item it e q
  · exact wpAny_nextOf_wide_item it e q
theorem text_end {ty : String} {p : Addr} {x : Str} {t : Tok} {i : Nat} {Q : Value → Shared → Prop} (k : TextTy ty) (hd : A.handled = none) (it : s.heap.IsStrIter p ty x t i) (e : x.cps[i]? = none)
    (q : ∀ g b, Heap.ExtBut p s.heap g → (∃ o, g.get? b = some o ∧ o.cls = .type "StopIteration") → E (.ref b) { s with heap := g }) : wpAny (model prog w) A (Builtin.SmallTypes.nextOf (.ref p)) Q E s := by
  rcases k with rfl | rfl
  · exact wpAny_nextOf_ascii_end hd it e q
  · exact wpAny_nextOf_wide_end hd it e q
theorem at_text {h h' : Heap} {p : Addr} {ty : String} {x : Str} {t : Tok} {i : Nat} (y : h.IsStrIter p ty x t i) (k : ∀ o, h.get? p = some o → h'.get? p = some o) : h'.IsStrIter p ty x t i :=
  let ⟨o, e, r⟩ := y
  ⟨o, k o e, r⟩
/-- a turn of zip over two texts that both have a further sign -/
theorem zipS_item {z TI TO i1 i2 l1 l2 : Addr} {ty1 ty2 : String} {x1 x2 : Str} {t1 t2 : Tok} {k1 k2 c1 c2 : Nat} {a b : Value} {Q : Value → Shared → Prop} (D : ZipApart z TI TO i1 i2 l1 l2) (y1 : TextTy ty1) (y2 : TextTy ty2)
    (hz : IsZip s.heap z TI TO .none) (hTI : IsPair s.heap TI (.ref i1) (.ref i2)) (hTO : IsPair s.heap TO a b) (h1 : s.heap.IsStrIter i1 ty1 x1 t1 k1) (h2 : s.heap.IsStrIter i2 ty2 x2 t2 k2)
    (e1 : x1.cps[k1]? = some c1) (e2 : x2.cps[k2]? = some c2)
    (q : ∀ g n u1 u2, IsZip g z TI TO (rawInt s.heap.objs.size) → (∃ a b, IsPair g TO a b) → g.IsStrIter i1 ty1 x1 t1 (k1 + 1) → g.IsStrIter i2 ty2 x2 t2 (k2 + 1) → IsPair g s.heap.objs.size (.str ⟨#[c1]⟩ u1) (.str ⟨#[c2]⟩ u2) →
      (∀ c o, c ≠ z → c ≠ TO → c ≠ i1 → c ≠ i2 → s.heap.get? c = some o → g.get? c = some o) → Q (.ref s.heap.objs.size) { s with heap := g, toks := n }) :
    wpAny (model prog w) A (Builtin.«zip.__next__» ⟨[.ref z], []⟩) (fun r s' => ∃ v, r = .done (.ret v) ∧ Q v s') E s := by
  show wpAny _ _ (field (.ref z) 2 >>= _) _ _ _
  refine wpAny_bind (wpAny_field hz rfl (x := .bool false) rfl ?_)
  show wpAny _ _ (field (.ref z) 3 >>= _) _ _ _
  refine wpAny_bind (wpAny_field hz rfl (x := .ref TI) rfl ?_)
  refine wpAny_bind (wpAny_seqItems hTI rfl ?_)
  show wpAny _ _ (Builtin.SmallTypes.ownedTupleIsFree (.ref z) >>= _) _ _ _
  refine wpAny_bind ?_
  unfold Builtin.SmallTypes.ownedTupleIsFree
  refine wpAny_bind (wpAny_field hz rfl (x := .none) rfl (wpAny_pure ?_))
  simp only [if_true]
  refine wpAny_bind (wpAny_rule ?_)
  refine wpAny_bind (wpAny_field hz rfl (x := .ref TO) rfl ?_)
  refine wpAny_bind (wpAny_setField_rec hz (by simp) fun g1 z1 s1 => ?_)
  replace z1 : IsZip g1 z TI TO .ellipsis := z1
  refine wpAny_bind ?_
  simp only [List.zipIdx_cons, List.zipIdx_nil, List.forIn_cons, List.forIn_nil]
  refine wpAny_bind (wpAny_bind (wpAny_onRaise ?_))
  show wpAny _ _ (Builtin.SmallTypes.nextOf (.ref i1) >>= _) _ _ _
  refine wpAny_bind (text_item y1 (h1.extBut s1.extBut D.i1z) e1 fun g2 it1 s2 => wpAny_pure ?_)
  have o2 : IsPair g2 TO a b := s2.extBut _ _ D.TOi1 (s1.extBut _ _ D.TOz hTO)
  refine wpAny_bind (wpAny_seqItems o2 rfl ?_)
  refine wpAny_bind (wpAny_updateSeq_pair o2 fun g3 o3 s3 => ?_)
  replace o3 : IsPair g3 TO (.str ⟨#[c1]⟩ s.toks) b := o3
  refine wpAny_bind (wpAny_letGo (wpAny_pure ?_))
  refine wpAny_bind (wpAny_bind (wpAny_onRaise ?_))
  show wpAny _ _ (Builtin.SmallTypes.nextOf (.ref i2) >>= _) _ _ _
  refine wpAny_bind (text_item y2 (((h2.extBut s1.extBut D.i2z).extBut s2.extBut D.i12.symm).extBut s3.extBut D.TOi2.symm) e2 fun g4 it2 s4 => wpAny_pure ?_)
  have o4 : IsPair g4 TO (.str ⟨#[c1]⟩ s.toks) b := s4.extBut _ _ D.TOi2 o3
  refine wpAny_bind (wpAny_seqItems o4 rfl ?_)
  refine wpAny_bind (wpAny_updateSeq_pair o4 fun g5 o5 s5 => ?_)
  replace o5 : IsPair g5 TO (.str ⟨#[c1]⟩ s.toks) (.str ⟨#[c2]⟩ (s.toks + 1)) := o5
  refine wpAny_bind (wpAny_letGo (wpAny_pure (wpAny_pure ?_)))
  refine wpAny_bind (wpAny_seqItems o5 rfl ?_)
  refine wpAny_bind (wpAny_newTuple ?_)
  have size : g5.objs.size = s.heap.objs.size := by rw [s5.1, s4.1, s3.1, s2.1, s1.1]
  have z5 : IsZip g5 z TI TO .ellipsis := s5.extBut _ _ D.TOz.symm (s4.extBut _ _ D.i2z.symm (s3.extBut _ _ D.TOz.symm (s2.extBut _ _ D.i1z.symm z1)))
  have keep : ∀ c o, c ≠ z → c ≠ TO → c ≠ i1 → c ≠ i2 → s.heap.get? c = some o → g5.get? c = some o := fun c o n1 n2 n3 n4 e =>
    s5.extBut _ _ n2 (s4.extBut _ _ n4 (s3.extBut _ _ n2 (s2.extBut _ _ n3 (s1.extBut _ _ n1 e))))
  have j1 : g5.IsStrIter i1 ty1 x1 t1 (k1 + 1) := ((it1.extBut s3.extBut D.TOi1.symm).extBut s4.extBut D.i12).extBut s5.extBut D.TOi1.symm
  have j2 : g5.IsStrIter i2 ty2 x2 t2 (k2 + 1) := it2.extBut s5.extBut D.TOi2.symm
  have lz : z < g5.objs.size := Heap.lt_size z5
  show wpAny _ _ (Builtin.SmallTypes.ownedTupleHandOut (.ref z) (.ref g5.objs.size) >>= _) _ _ _
  refine wpAny_bind ?_
  unfold Builtin.SmallTypes.ownedTupleHandOut
  have z6 : IsZip (g5.push { cls := .type "tuple", data := .seq #[.str ⟨#[c1]⟩ s.toks, .str ⟨#[c2]⟩ (s.toks + 1)] }) z TI TO .ellipsis := Heap.get?_push_of_some _ z5
  refine wpAny_bind (wpAny_setField_rec z6 (by simp) fun g7 z7 s7 => ?_)
  replace z7 : IsZip g7 z TI TO (rawInt g5.objs.size) := z7
  refine wpAny_setField_rec z7 (by simp) fun g8 z8 s8 => ?_
  replace z8 : IsZip g8 z TI TO (rawInt g5.objs.size) := z8
  have up : ∀ c o, c ≠ z → g5.get? c = some o → g8.get? c = some o := fun c o n e => s8.extBut _ _ n (s7.extBut _ _ n (Heap.get?_push_of_some _ e))
  have p8 : IsPair g8 g5.objs.size (.str ⟨#[c1]⟩ s.toks) (.str ⟨#[c2]⟩ (s.toks + 1)) := s8.extBut _ _ (Nat.ne_of_gt lz) (s7.extBut _ _ (Nat.ne_of_gt lz) (Heap.get?_push_size _ rfl))
  rw [size] at z8 p8
  refine wpAny_pure ⟨_, rfl, ?_⟩
  show Q (.ref g5.objs.size) _
  rw [size]
  exact q g8 _ _ _ z8 ⟨_, _, up _ _ D.TOz o5⟩ (at_text j1 fun o e => up _ o D.i1z e) (at_text j2 fun o e => up _ o D.i2z e) p8 fun c o n1 n2 n3 n4 e => up c o n1 (keep c o n1 n2 n3 n4 e)
/-- the turn at which one of the texts is at its end -/
theorem zipS_end {z TI TO i1 i2 l1 l2 : Addr} {ty1 ty2 : String} {x1 x2 : Str} {t1 t2 : Tok} {k1 k2 : Nat} {a b : Value} {Q : Fin → Shared → Prop} (hd : A.handled = none) (D : ZipApart z TI TO i1 i2 l1 l2) (y1 : TextTy ty1) (y2 : TextTy ty2)
    (hz : IsZip s.heap z TI TO .none) (hTI : IsPair s.heap TI (.ref i1) (.ref i2)) (hTO : IsPair s.heap TO a b) (h1 : s.heap.IsStrIter i1 ty1 x1 t1 k1) (h2 : s.heap.IsStrIter i2 ty2 x2 t2 k2)
    (fin : x1.cps[k1]? = none ∨ x2.cps[k2]? = none)
    (q : ∀ g n e, (∀ c o, c ≠ z → c ≠ TO → c ≠ i1 → c ≠ i2 → s.heap.get? c = some o → g.get? c = some o) → (∃ o, g.get? e = some o ∧ o.cls = .type "StopIteration") → E (.ref e) { s with heap := g, toks := n }) :
    wpAny (model prog w) A (Builtin.«zip.__next__» ⟨[.ref z], []⟩) Q E s := by
  show wpAny _ _ (field (.ref z) 2 >>= _) _ _ _
  refine wpAny_bind (wpAny_field hz rfl (x := .bool false) rfl ?_)
  show wpAny _ _ (field (.ref z) 3 >>= _) _ _ _
  refine wpAny_bind (wpAny_field hz rfl (x := .ref TI) rfl ?_)
  refine wpAny_bind (wpAny_seqItems hTI rfl ?_)
  show wpAny _ _ (Builtin.SmallTypes.ownedTupleIsFree (.ref z) >>= _) _ _ _
  refine wpAny_bind ?_
  unfold Builtin.SmallTypes.ownedTupleIsFree
  refine wpAny_bind (wpAny_field hz rfl (x := .none) rfl (wpAny_pure ?_))
  simp only [if_true]
  refine wpAny_bind (wpAny_rule ?_)
  refine wpAny_bind (wpAny_field hz rfl (x := .ref TO) rfl ?_)
  refine wpAny_bind (wpAny_setField_rec hz (by simp) fun g1 z1 s1 => ?_)
  replace z1 : IsZip g1 z TI TO .ellipsis := z1
  refine wpAny_bind ?_
  simp only [List.zipIdx_cons, List.zipIdx_nil, List.forIn_cons, List.forIn_nil]
  refine wpAny_bind (wpAny_bind (wpAny_onRaise ?_))
  show wpAny _ _ (Builtin.SmallTypes.nextOf (.ref i1) >>= _) _ _ _
  cases e1 : x1.cps[k1]? with
  | none =>
    refine wpAny_bind (text_end y1 hd (h1.extBut s1.extBut D.i1z) e1 fun g2 e s2 st => ?_)
    obtain ⟨oe, ge, ce⟩ := st
    have z2 : IsZip g2 z TI TO .ellipsis := s2 _ _ D.i1z.symm z1
    have nz : e ≠ z := fun x => by
      rw [x, z2] at ge
      cases ge
      simp at ce
    exact wpAny_setField_rec z2 (by simp) fun g3 _ s3 => q g3 _ e (fun c o n1 _ n3 _ x => s3.extBut _ _ n1 (s2 _ _ n3 (s1.extBut _ _ n1 x))) ⟨oe, s3.extBut _ _ nz ge, ce⟩
  | some c1 =>
    have e2 : x2.cps[k2]? = none := by
      rcases fin with h | h
      · rw [e1] at h
        cases h
      · exact h
    refine wpAny_bind (text_item y1 (h1.extBut s1.extBut D.i1z) e1 fun g2 it1 s2 => wpAny_pure ?_)
    have o2 : IsPair g2 TO a b := s2.extBut _ _ D.TOi1 (s1.extBut _ _ D.TOz hTO)
    refine wpAny_bind (wpAny_seqItems o2 rfl ?_)
    refine wpAny_bind (wpAny_updateSeq_pair o2 fun g3 o3 s3 => ?_)
    refine wpAny_bind (wpAny_letGo (wpAny_pure ?_))
    refine wpAny_bind (wpAny_bind (wpAny_onRaise ?_))
    show wpAny _ _ (Builtin.SmallTypes.nextOf (.ref i2) >>= _) _ _ _
    refine wpAny_bind (text_end y2 hd (((h2.extBut s1.extBut D.i2z).extBut s2.extBut D.i12.symm).extBut s3.extBut D.TOi2.symm) e2 fun g4 e s4 st => ?_)
    obtain ⟨oe, ge, ce⟩ := st
    have z4 : IsZip g4 z TI TO .ellipsis := s4 _ _ D.i2z.symm (s3.extBut _ _ D.TOz.symm (s2.extBut _ _ D.i1z.symm z1))
    have nz : e ≠ z := fun x => by
      rw [x, z4] at ge
      cases ge
      simp at ce
    exact wpAny_setField_rec z4 (by simp) fun g5 _ s5 => q g5 _ e (fun c o n1 n2 n3 n4 x => s5.extBut _ _ n1 (s4 _ _ n4 (s3.extBut _ _ n2 (s2.extBut _ _ n3 (s1.extBut _ _ n1 x))))) ⟨oe, s5.extBut _ _ nz ge, ce⟩
theorem next_zipS {z TI TO i1 i2 l1 l2 : Addr} {ty1 ty2 : String} {x1 x2 : Str} {t1 t2 : Tok} {k1 k2 c1 c2 : Nat} {a b : Value} {Q : Option Value → Shared → Prop} (D : ZipApart z TI TO i1 i2 l1 l2) (y1 : TextTy ty1) (y2 : TextTy ty2)
    (hz : IsZip s.heap z TI TO .none) (hTI : IsPair s.heap TI (.ref i1) (.ref i2)) (hTO : IsPair s.heap TO a b) (h1 : s.heap.IsStrIter i1 ty1 x1 t1 k1) (h2 : s.heap.IsStrIter i2 ty2 x2 t2 k2)
    (e1 : x1.cps[k1]? = some c1) (e2 : x2.cps[k2]? = some c2)
    (q : ∀ g n u1 u2, IsZip g z TI TO (rawInt s.heap.objs.size) → (∃ a b, IsPair g TO a b) → g.IsStrIter i1 ty1 x1 t1 (k1 + 1) → g.IsStrIter i2 ty2 x2 t2 (k2 + 1) → IsPair g s.heap.objs.size (.str ⟨#[c1]⟩ u1) (.str ⟨#[c2]⟩ u2) →
      (∀ c o, c ≠ z → c ≠ TO → c ≠ i1 → c ≠ i2 → s.heap.get? c = some o → g.get? c = some o) → Q (some (.ref s.heap.objs.size)) { s with heap := g, toks := n }) :
    wpAny (model prog w) A (pyNext (.ref z)) Q E s := by
  have ty : s.TypeIs (.ref z) "zip" := ⟨_, hz, rfl⟩
  unfold pyNext
  refine wpAny_bind (wpAny_attempt (wpAny_callSpecial?_slot (name := Str.ofString "__next__") ty F.slot_zip_next (wpAny_call_entry F.slot_zip_next ty F.entry_zip_next ?_ (F.args_zip_next_1 _))))
  exact zipS_item D y1 y2 hz hTI hTO h1 h2 e1 e2 fun g n u1 u2 p1 p2 p3 p4 p5 p6 => wpAny_pure (q g n u1 u2 p1 p2 p3 p4 p5 p6)
theorem next_zipS_end {z TI TO i1 i2 l1 l2 : Addr} {ty1 ty2 : String} {x1 x2 : Str} {t1 t2 : Tok} {k1 k2 : Nat} {a b : Value} {Q : Option Value → Shared → Prop} (hd : A.handled = none) (D : ZipApart z TI TO i1 i2 l1 l2) (y1 : TextTy ty1) (y2 : TextTy ty2)
    (hz : IsZip s.heap z TI TO .none) (hTI : IsPair s.heap TI (.ref i1) (.ref i2)) (hTO : IsPair s.heap TO a b) (h1 : s.heap.IsStrIter i1 ty1 x1 t1 k1) (h2 : s.heap.IsStrIter i2 ty2 x2 t2 k2)
    (fin : x1.cps[k1]? = none ∨ x2.cps[k2]? = none) (q : ∀ g n, (∀ c o, c ≠ z → c ≠ TO → c ≠ i1 → c ≠ i2 → s.heap.get? c = some o → g.get? c = some o) → Q none { s with heap := g, toks := n }) : wpAny (model prog w) A (pyNext (.ref z)) Q E s := by
  have ty : s.TypeIs (.ref z) "zip" := ⟨_, hz, rfl⟩
  unfold pyNext
  refine wpAny_bind (wpAny_attempt (wpAny_callSpecial?_slot (name := Str.ofString "__next__") ty F.slot_zip_next (wpAny_call_entry F.slot_zip_next ty F.entry_zip_next ?_ (F.args_zip_next_1 _))))
  refine zipS_end hd D y1 y2 hz hTI hTO h1 h2 fin fun g n e k st => ?_
  obtain ⟨o, ho, hc⟩ := st
  exact wpAny_bind (wpAny_isInstance (T := "StopIteration") (b := true) ⟨o, ho, hc⟩ isSubtype_stop (wpAny_pure (q g n k)))
end
end PSZ

set_option Elab.async false
set_option linter.all false
set_option maxRecDepth 100000
set_option maxHeartbeats 4000000
namespace PSZ
open PySem
open PySem.Sem (wp)
theorem textTy (x : Str) : TextTy (strIterType x) := by
  unfold strIterType
  split
  · exact .inl rfl
  · exact .inr rfl
def walker (x : Str) (t : Tok) : Obj := { cls := .type (strIterType x), data := .fields #[.str x t, .int 0 0] }
def two (a b : Value) : Obj := { cls := .type "tuple", data := .seq #[a, b] }
def pairs (h : Heap) (x y : Str) (t u : Tok) : Heap := (((h.push (walker x t)).push (walker y u)).push (two (.ref h.objs.size) (.ref (h.push (walker x t)).objs.size))).push (two .none .none)
def zipped (h : Heap) (x y : Str) (t u : Tok) : Heap :=
  (pairs h x y t u).push { cls := .type "zip", data := .fields #[.none, .bool false, .bool false, .ref ((h.push (walker x t)).push (walker y u)).objs.size, .ref (((h.push (walker x t)).push (walker y u)).push (two (.ref h.objs.size) (.ref (h.push (walker x t)).objs.size))).objs.size] }
theorem new_zipS (x y : Str) (t u : Tok) : Meets (Builtin.«zip.__new__» ⟨[.type "zip", .str x t, .str y u], []⟩) (fun _ R s => R (.ok (.ret (.ref (pairs s.heap x y t u).objs.size))) { s with heap := zipped s.heap x y t u }) :=
  .of_wp fun prog w A R s h => by
    obtain ⟨hp, g, d, tk, os⟩ := s
    have sub := sub_zip
    wp_walk using wpAny_pyIter_strU
    exact ⟨_, rfl, h⟩
section
variable {prog : Program} {w : World} {A : Around} {E : Value → Shared → Prop} {s : Shared}
theorem call_zipS {x y : Str} {t u : Tok} {Q : Value → Shared → Prop}
    (q : ∀ g, IsZip g (s.heap.objs.size + 4) (s.heap.objs.size + 2) (s.heap.objs.size + 3) .none → IsPair g (s.heap.objs.size + 2) (.ref s.heap.objs.size) (.ref (s.heap.objs.size + 1)) → IsPair g (s.heap.objs.size + 3) .none .none →
      g.IsStrIter s.heap.objs.size (strIterType x) x t 0 → g.IsStrIter (s.heap.objs.size + 1) (strIterType y) y u 0 → (∀ c o, s.heap.get? c = some o → g.get? c = some o) → Q (.ref (s.heap.objs.size + 4)) { s with heap := g }) :
    wpAny (model prog w) A (call (.type "zip") [.str x t, .str y u]) Q E s := by
  refine callType_new F.called_zip (by decide) (F.typeCall_zip_2 _ _) (F.newCall_zip_2 _ _) (fun obj => F.args_object_init_3 obj _ _) F.entry_zip_new (new_zipS x y t u) ?_
  have n1 : (s.heap.push (walker x t)).objs.size = s.heap.objs.size + 1 := Heap.size_push ..
  have n2 : ((s.heap.push (walker x t)).push (walker y u)).objs.size = s.heap.objs.size + 2 := by rw [Heap.size_push, n1]
  have n3 : (((s.heap.push (walker x t)).push (walker y u)).push (two (.ref s.heap.objs.size) (.ref (s.heap.push (walker x t)).objs.size))).objs.size = s.heap.objs.size + 3 := by rw [Heap.size_push, n2]
  have n4 : (pairs s.heap x y t u).objs.size = s.heap.objs.size + 4 := by
    unfold pairs
    rw [Heap.size_push, n3]
  have old : ∀ {c : Addr} {o : Obj}, (pairs s.heap x y t u).get? c = some o → (zipped s.heap x y t u).get? c = some o := fun e => Heap.get?_push_of_some _ e
  have a5 : (zipped s.heap x y t u).get? (pairs s.heap x y t u).objs.size = some _ := Heap.get?_push_size _ rfl
  have a4 : (zipped s.heap x y t u).get? _ = some _ := old (Heap.get?_push_size _ rfl)
  have a3 : (zipped s.heap x y t u).get? _ = some _ := old (Heap.get?_push_of_some _ (Heap.get?_push_size _ rfl))
  have a2 : (zipped s.heap x y t u).get? _ = some _ := old (Heap.get?_push_of_some _ (Heap.get?_push_of_some _ (Heap.get?_push_size _ rfl)))
  have a1 : (zipped s.heap x y t u).get? s.heap.objs.size = some _ := old (Heap.get?_push_of_some _ (Heap.get?_push_of_some _ (Heap.get?_push_of_some _ (Heap.get?_push_size _ rfl))))
  show _ ∧ _
  rw [n2, n3, n4] at a5
  rw [n3] at a4
  rw [n2, n1] at a3
  rw [n1] at a2
  rw [n4]
  exact ⟨⟨_, a5, rfl⟩, q _ a5 a3 a4 ⟨_, a1, rfl, rfl⟩ ⟨_, a2, rfl, rfl⟩ fun c o e => old (Heap.get?_push_of_some _ (Heap.get?_push_of_some _ (Heap.get?_push_of_some _ (Heap.get?_push_of_some _ e))))⟩
end
end PSZ
namespace PSG
open PySem PySem.Spec L2
open PyProof.Rows (IntsAre AllBare)
/-- the pairs of two texts -/
def Itzs (x y : Str) : It :=
  ⟨fun i _ => i < x.cps.size ∧ i < y.cps.size, fun i H v H' => ∃ T c d, v = .ref T ∧ H T = none ∧ H' = upd H T (.tup [.str ⟨#[c]⟩, .str ⟨#[d]⟩]) ∧ x.cps[i]? = some c ∧ y.cps[i]? = some d, fun i _ => x.cps.size ≤ i ∨ y.cps.size ≤ i⟩
theorem turn_zipS {P : Program} {w : World} {K : PySem.W.Frag} {tg : List Expr} {n : Nat} {tp : Pos} {x y : Str} {t u : Tok} {l1 l2 z TI TO i1 i2 : Addr} (D : ZipApart z TI TO i1 i2 l1 l2) :
    Turn P w K (.Tuple tg n tp) (Itzs x y) [z, TI, TO, i1, i2] z (fun i h => IsZip h z TI TO .none ∧ IsPair h TI (.ref i1) (.ref i2) ∧ (∃ a b, IsPair h TO a b) ∧ h.IsStrIter i1 (strIterType x) x t i ∧ h.IsStrIter i2 (strIterType y) y u i) where
  mem := by simp
  obj := fun i h st c hc => by
    obtain ⟨hz, hTI, ⟨a, b, hTO⟩, ⟨o1, e1, _, d1⟩, ⟨o2, e2, _, d2⟩⟩ := st
    have which : c = z ∨ c = TI ∨ c = TO ∨ c = i1 ∨ c = i2 := by simpa using hc
    rcases which with rfl | rfl | rfl | rfl | rfl
    · exact ⟨_, hz, fun v q => nomatch q⟩
    · exact ⟨_, hTI, fun v q => nomatch q⟩
    · exact ⟨_, hTO, fun v q => nomatch q⟩
    · exact ⟨o1, e1, fun v q => by rw [d1] at q; cases q⟩
    · exact ⟨o2, e2, fun v q => by rw [d2] at q; cases q⟩
  keep := fun i h h' st k => by
    obtain ⟨hz, hTI, ⟨a, b, hTO⟩, h1, h2⟩ := st
    exact ⟨k z (by simp) _ hz, k TI (by simp) _ hTI, ⟨a, b, k TO (by simp) _ hTO⟩, PSZ.at_text h1 fun o q => k i1 (by simp) o q, PSZ.at_text h2 fun o q => k i2 (by simp) o q⟩
  item := by
    intro X e1 e2 e3 calm i pins s σ H E I fp st go
    subst e1 e2 e3
    obtain ⟨hz, hTI, ⟨a, b, hTO⟩, h1, h2⟩ := st
    obtain ⟨lx, ly⟩ := go
    have ex : x.cps[i]? = some x.cps[i] := Array.getElem?_eq_getElem lx
    have ey : y.cps[i]? = some y.cps[i] := Array.getElem?_eq_getElem ly
    have lz : z < s.heap.objs.size := Heap.lt_size hz
    refine PSZ.next_zipS D (PSZ.textTy x) (PSZ.textTy y) hz hTI hTO h1 h2 ex ey fun g m u1 u2 z' o' j1 j2 pr k => ?_
    refine ⟨_, rfl, wpAny_letOwnedTupleGo_zip (s := { s with heap := g, toks := m }) z' fun g2 z2 sb => ?_⟩
    have pr2 : g2.get? s.heap.objs.size = some { cls := .type "tuple", data := .seq #[.str ⟨#[x.cps[i]]⟩ u1, .str ⟨#[y.cps[i]]⟩ u2] } := (sb.2 _ (Nat.ne_of_gt lz)).trans pr
    have new : ObjOk X.prog X.w (upd H s.heap.objs.size (.tup [.str ⟨#[x.cps[i]]⟩, .str ⟨#[y.cps[i]]⟩])) g2 s.heap.objs.size (.tup [.str ⟨#[x.cps[i]]⟩, .str ⟨#[y.cps[i]]⟩]) :=
      ⟨by show 2 ≤ sizeLine; decide, _, .cons ⟨u1, rfl⟩ (.cons ⟨u2, rfl⟩ .nil), ⟨_, pr2, rfl, _, rfl⟩⟩
    have out : ∀ c, c ∉ [z, TI, TO, i1, i2] → c ≠ z ∧ c ≠ TO ∧ c ≠ i1 ∧ c ≠ i2 := fun c n => by
      simp only [List.mem_cons, List.not_mem_nil, or_false, not_or] at n
      exact ⟨n.1, n.2.2.1, n.2.2.2.1, n.2.2.2.2⟩
    have J := I.turnedNew (t' := m) (ch := [z, TI, TO, i1, i2]) (fun c o n q => (sb.2 c (out c n).1).trans (k c o (out c n).1 (out c n).2.1 (out c n).2.2.1 (out c n).2.2.2 q)) fp (Nat.le_refl _) new
    refine ⟨.ref s.heap.objs.size, _, J, rfl, ⟨_, _, _, rfl, I.hok.fresh (Nat.le_refl _), rfl, ex, ey⟩, ⟨z2, (sb.2 _ D.TIz).trans (k _ _ D.TIz D.TITO D.TIi1 D.TIi2 hTI), ?_, PSZ.at_text j1 fun o q => (sb.2 _ D.i1z).trans q, PSZ.at_text j2 fun o q => (sb.2 _ D.i2z).trans q⟩, fun c m => ?_⟩
    · obtain ⟨a', b', q⟩ := o'
      exact ⟨a', b', (sb.2 _ D.TOz).trans q⟩
    · have lt : c < s.heap.objs.size := by
        have which : c = z ∨ c = TI ∨ c = TO ∨ c = i1 ∨ c = i2 := by simpa using m
        rcases which with rfl | rfl | rfl | rfl | rfl
        · exact lz
        · exact Heap.lt_size hTI
        · exact Heap.lt_size hTO
        · obtain ⟨_, q, _⟩ := h1
          exact Heap.lt_size q
        · obtain ⟨_, q, _⟩ := h2
          exact Heap.lt_size q
      rw [upd_ne (Nat.ne_of_lt lt)]
      exact (fp c m).1
  done := by
    intro X e1 e2 e3 calm i pins s σ H E I fp st stop
    subst e1 e2 e3
    obtain ⟨hz, hTI, ⟨a, b, hTO⟩, h1, h2⟩ := st
    have fin : x.cps[i]? = none ∨ y.cps[i]? = none := stop.imp Array.getElem?_eq_none Array.getElem?_eq_none
    have out : ∀ c, c ∉ [z, TI, TO, i1, i2] → c ≠ z ∧ c ≠ TO ∧ c ≠ i1 ∧ c ≠ i2 := fun c n => by
      simp only [List.mem_cons, List.not_mem_nil, or_false, not_or] at n
      exact ⟨n.1, n.2.2.1, n.2.2.2.1, n.2.2.2.2⟩
    exact PSZ.next_zipS_end (I.ok.hd calm) D (PSZ.textTy x) (PSZ.textTy y) hz hTI hTO h1 h2 fin fun g m k => ⟨rfl, I.turnedL (t' := m) (ch := [z, TI, TO, i1, i2]) (fun c o n q => k c o (out c n).1 (out c n).2.1 (out c n).2.2.1 (out c n).2.2.2 q) fp⟩
  self := fun A i s Q E st h => wpAny_pyIter_zip st.1 h
def iZipS (ta : TA) : TI := fun σ H R => ta σ H fun vs H1 => ∃ x y, vs = [.str x, .str y] ∧ R (Itzs x y) H1
theorem pi_zipS {X : Cx} {e e2 : Expr} {ta : TA} {p pos tp : Pos} {tg : List Expr} {n : Nat} (hg : Gl X "zip") (hm : X.mg "zip" = none) (ha : PA X [e, e2] ta)
    (se : starEach [e, e2] X.env = (false, eval e X.env) :: starEach [e2] X.env := by rfl) (sn : (backTo pos (starEach [e2] X.env)).any (·.1) = false := by rfl) :
    PI X (.Tuple tg n tp) (.Call (.Name "zip" p) [e, e2] [] pos) (iZipS ta) := by
  refine ⟨fun pins s σ H R I h => ?_⟩
  refine PyProof.Rows.Call_ (ld_blt I hg hm PyProof.Rows.boot_zip (PyProof.Rows.callWith_type1 (thn (ha.run pos pins s σ H _ I h) fun us s1 ⟨vs, H1, I1, r1, x, y, ev, q⟩ => ?_) se sn))
  subst ev
  obtain ⟨u1, u2, rfl, rx, ry⟩ := vals2 r1
  obtain ⟨t, rfl⟩ := rx
  obtain ⟨u, rfl⟩ := ry
  have pos0 : 0 < s1.heap.objs.size := Nat.lt_of_le_of_lt (Nat.zero_le _) I1.big
  refine PSZ.call_zipS fun g hz hTI hTO h1 h2 k => wpAny_pyIter_zip hz ?_
  have I2 : Inv X pins σ H1 { s1 with heap := g } := I1.kept (t' := s1.toks) k
  refine ⟨s1.heap.objs.size + 4, [s1.heap.objs.size + 4, s1.heap.objs.size + 2, s1.heap.objs.size + 3, s1.heap.objs.size, s1.heap.objs.size + 1], _, _, H1, rfl, I2, turn_zipS (PySem.W.ktu_apart s1.heap.objs.size 0 0 pos0 pos0), ⟨hz, hTI, ⟨_, _, hTO⟩, h1, h2⟩, fun c m => ?_, q⟩
  have le : s1.heap.objs.size ≤ c := by
    simp only [List.mem_cons, List.not_mem_nil, or_false] at m
    rcases m with z | z | z | z | z
    · exact z ▸ Nat.le_add_right _ _
    · exact z ▸ Nat.le_add_right _ _
    · exact z ▸ Nat.le_add_right _ _
    · exact z ▸ Nat.le_refl _
    · exact z ▸ Nat.le_add_right _ _
  exact I1.fpOk le (I1.hok.fresh le)
/-- a loop over the pairs of two texts -/
theorem for_zipS {x y : Str} {g : TG} {tb : TS} {D : Ends} {σ : L2.St} {H : Hp} (Pv : Nat → L2.St → Hp → Prop) (h0 : Pv 0 σ H)
    (hs : ∀ (i c d : Nat) (T : Addr) (σ : L2.St) (H : Hp), x.cps[i]? = some c → y.cps[i]? = some d → Pv i σ H → H T = none → g (.ref T) σ (upd H T (.tup [.str ⟨#[c]⟩, .str ⟨#[d]⟩])) fun σ2 H2 => tb { D with nx := Pv (i + 1), ct := Pv (i + 1), bk := D.nx } σ2 H2)
    (hd : ∀ i σ H, x.cps.size ≤ i ∨ y.cps.size ≤ i → i ≤ x.cps.size → i ≤ y.cps.size → Pv i σ H → D.nx σ H) :
    ∃ W : Nat → Nat → L2.St → Hp → Prop, (∃ m, W 0 m σ H) ∧ ∀ i m σ H, W i m σ H →
      ((Itzs x y).stop i H ∧ D.nx σ H) ∨ ((Itzs x y).go i H ∧ ∃ N : L2.St → Hp → Prop, (∀ σ' H', N σ' H' → ∃ m', m' < m ∧ W (i + 1) m' σ' H') ∧ ∀ v H', (Itzs x y).yld i H v H' → g v σ H' fun σ2 H2 => tb { D with nx := N, ct := N, bk := D.nx } σ2 H2) := by
  refine ⟨fun i m σ H => m = x.cps.size - i ∧ i ≤ x.cps.size ∧ i ≤ y.cps.size ∧ Pv i σ H, ⟨x.cps.size, rfl, Nat.zero_le _, Nat.zero_le _, h0⟩, ?_⟩
  rintro i m σ H ⟨rfl, l1, l2, p⟩
  by_cases go : i < x.cps.size ∧ i < y.cps.size
  · refine .inr ⟨go, Pv (i + 1), fun σ' H' p' => ⟨x.cps.size - (i + 1), by omega, rfl, go.1, go.2, p'⟩, fun v H' yl => ?_⟩
    obtain ⟨T, c, d, rfl, hT, rfl, e1, e2⟩ := yl
    exact hs i c d T σ H e1 e2 p hT
  · have fin : x.cps.size ≤ i ∨ y.cps.size ≤ i := by omega
    exact .inl ⟨fin, hd i σ H fin l1 l2 p⟩
end PSG

set_option Elab.async false
set_option linter.all false
set_option maxRecDepth 100000
set_option maxHeartbeats 4000000
namespace PSG
open PySem PySem.Spec L2
open PyProof.Rows (IntsAre AllBare)
/-! ### own exceptions of any base, raised -/
/-- what an exception that is held bears: its dict, if it has attributes -/
def ExS (H : Hp) (d : Option Addr) (fs : List (Str × V)) : Prop := (d = none ∧ fs = []) ∨ ∃ dx, d = some dx ∧ fs ≠ [] ∧ H dx = some (exd dx fs)
theorem ExS.same {H H' : Hp} {d : Option Addr} {fs : List (Str × V)} (x : ExS H d fs) (s : Same H H') : ExS H' d fs := by
  rcases x with x | ⟨dx, e, n, h⟩
  · exact .inl x
  · exact .inr ⟨dx, e, n, s _ _ h⟩
/-- the new exception is no longer tracked, its dict stands -/
theorem let_go {X : Cx} {pins : List (Addr × Obj)} {σ : L2.St} {H1 H2 : Hp} {hp hp2 h2 : Heap} {g1 g2 : Array GenState} {r1 r2 : Drawn} {t1 t2 : Nat} {os1 os2 : OsState} {a C : Addr} {d : Option Addr} (I : Inv X pins σ H1 ⟨hp, g1, r1, t1, os1⟩)
    (above : hp.objs.size ≤ a) (old : ∀ b o, hp.get? b = some o → hp2.get? b = some o) (un : Un (frs X.stack) [] (upd H1 a (exo a C none)) H2 hp2 h2) (hok : HOk X.prog X.w H2 h2) (eos : os2 = os1) (bare : AllBare g2) (ea : H2 a = some (exo a C d)) :
    ∃ (t0 : Addr) (G : Heap), Inv X pins σ (del H2 a) ⟨G, g2, r2, t2, os2⟩ ∧ (∀ b o, G.get? b = some o → h2.get? b = some o) ∧ G.get? a = none ∧
      h2.get? a = some ({ cls := .ref C, dict := d, data := .fields #[.ref t0, .none, .none, .none, .bool false, .none] } : Obj) := by
  obtain ⟨t0, at_⟩ := exo_at hok ea
  have n1 : H1 a = none := I.hok.fresh above
  obtain ⟨G, yes, no⟩ := restrict h2 fun b => decide (b ≠ a)
  have gk : ∀ b, b ≠ a → G.get? b = h2.get? b := fun b n => yes b (decide_eq_true n)
  have ga : G.get? a = none := no a (by simp)
  have off : ∀ {b : Addr} {o : Obj}, hp.get? b = some o → b ≠ a := fun {b o} z => Nat.ne_of_lt (Nat.lt_of_lt_of_le (Heap.lt_size z) above)
  have up : ∀ {b : Addr} {u : Option HO}, b ≠ a → H1 b = u → upd H1 a (exo a C none) b = u := fun {b u} n e => (upd_ne n).trans e
  have U : Un (frs X.stack) [] H1 (del H2 a) hp G := {
    keep := fun b o z n f x => (gk b (off z)).trans (un.keep b o (old b o z) (up (off z) n) f x)
    slot := fun b o z n f x => by
      rw [gk b (off z)]
      exact un.slot b o (old b o z) (up (off z) n) f x
    free := fun b o z n x => (del_ne (off z)).trans (un.free b o (old b o z) (up (off z) n) x)
    there := fun b o z x => by
      rw [gk b (off z)]
      exact un.there b o (old b o z) x
    tups := fun b xs z => (del_ne (ne_of_none z n1)).trans (un.tups b xs (up (ne_of_none z n1) z))
    frzs := fun b o v z => (del_ne (ne_of_none z n1)).trans (un.frzs b o v (up (ne_of_none z n1) z))
    tbls := fun b ps z => by
      rw [del_ne (ne_of_none z n1)]
      exact un.tbls b ps (up (ne_of_none z n1) z) }
  have hok2 : HOk X.prog X.w (del H2 a) G := fun b o z => by
    have nb : b ≠ a := fun e => by
      rw [e, del_same] at z
      cases z
    rw [del_ne nb] at z
    refine (hok b o z).stay (fun c v hc y => ?_) (fun c hc => (del_ne (at_ne ea hc exo_own)).trans hc) fun c xs hc => (del_ne (at_ne ea hc exo_tup)).trans hc
    have nc : c ≠ a := by
      rcases hc with hc | hc
      · rw [hc]
        exact nb
      · exact at_ne ea hc exo_own
    exact (gk c nc).trans y
  refine ⟨t0, G, I.call' (ch := []) eos U hok2 bare (fun b z => absurd z (by simp)), fun b o z => ?_, ga, at_⟩
  by_cases e : b = a
  · rw [e, ga] at z
    cases z
  · exact (gk b e).symm.trans z
/-- C(e, ..): the exception's class, its dict, and what the state is then -/
def tPmk (C : Addr) (fn : List Str) (t : TA) : L2.St → Hp → XK → Prop := fun σ H Q => t σ H fun vs H1 => vs.length = fn.length ∧ fn.length ≤ 1000 ∧ ∀ d H3, Same H1 H3 → ExS H3 d (fn.zip vs).reverse → Q (.ref C) d H3
section
variable {X : Cx} {x : Str} {C fI : Addr} {n : Nat} {fd : FuncData} {ps fn : List Str} {B newId initId : String} {bmB : List Value} {p pos : Pos}
theorem pmade {pins : List (Addr × Obj)} {σ : L2.St} {H1 : Hp} {hp : Heap} {g : Array GenState} {dr : Drawn} {tk : Nat} {os : OsState} {Q : XK} {us : List Value} {vs : List V} (T : Xk X.K C fI B newId initId bmB)
    (F : FnOk X.prog X.w X.K X.mg X.base CX0 n fI fd ps (spXI C fn)) (room : Room (n + 1) X.A) (I1 : Inv X pins σ H1 ⟨hp, g, dr, tk, os⟩) (lay : List Value)
    (bi : ∀ s : Shared, X.K.In s.heap → BindsTo s fd ⟨Value.ref (hp.objs.size + 1) :: us, []⟩ (ps.zip (.ref (hp.objs.size + 1) :: us))) (va : Vals vs us) (len : vs.length = fn.length)
    (ho : ∀ d H3, Same H1 H3 → ExS H3 d (fn.zip vs).reverse → Q (.ref C) d H3) :
    codeAny (model X.prog X.w) (X.A.under (.builtin "type.__call__" ⟨.ref C :: lay, []⟩)) (.call (.ref fI) ⟨Value.ref (hp.objs.size + 1) :: us, []⟩)
      (PySem.W.InitBack (hp.objs.size + 1) fun r s' => match r with | .ok (.ret v) => MkP X pins σ Q v s' | .ok _ => False | .error e => X.xe e s')
      ⟨(hp.push (PySem.W.kdv_tup lay)).push (PySem.HandSPX.excO C hp.objs.size), g, dr, tk, os⟩ := by
  have big : hp.objs.size ≤ hp.objs.size + 1 := Nat.le_succ _
  have free : H1 (hp.objs.size + 1) = none := I1.hok.fresh big
  have old : ∀ b o, hp.get? b = some o → ((hp.push (PySem.W.kdv_tup lay)).push (PySem.HandSPX.excO C hp.objs.size)).get? b = some o := fun b o e => Heap.get?_push_of_some _ (Heap.get?_push_of_some _ e)
  have new : ((hp.push (PySem.W.kdv_tup lay)).push (PySem.HandSPX.excO C hp.objs.size)).get? (hp.objs.size + 1) = some (PySem.HandSPX.excO C hp.objs.size) := by heap_get
  have I2 := I1.laid (t' := tk) (a := hp.objs.size + 1) (o := exo (hp.objs.size + 1) C none) (h' := (hp.push (PySem.W.kdv_tup lay)).push (PySem.HandSPX.excO C hp.objs.size)) old big (exo_ok new)
  refine codeAny_mono (F.run _ X.stack _ _ _ (Value.ref (hp.objs.size + 1) :: us) (V.ref (hp.objs.size + 1) :: vs) (fun v H2 => v = .non ∧ (∀ b o, b ≠ hp.objs.size + 1 → H1 b = some o → H2 b = some o) ∧ ExV H2 (hp.objs.size + 1) C (fn.zip vs).reverse) (fun _ _ _ => False)
    (room.make C lay []) (I2.env0.make C lay []) (bi _ I2.kIn) (.cons rfl va) ⟨_, vs, rfl, len, upd_same, fun H2 k ex => ⟨rfl, fun b o nb e => k b o nb ((upd_ne nb).trans e), ex⟩⟩) fun r s' z => ?_
  match r, z with
  | .ok (.ret u), z =>
    obtain ⟨v, H2, eos, bare, un, hok, rel, ev, k, ex⟩ := z
    subst ev
    obtain ⟨h2, g2, r2, t2, os2⟩ := s'
    have fin : ∀ d, H2 (hp.objs.size + 1) = some (exo (hp.objs.size + 1) C d) → ExS (del H2 (hp.objs.size + 1)) d (fn.zip vs).reverse → MkP X pins σ Q (.ref (hp.objs.size + 1)) ⟨h2, g2, r2, t2, os2⟩ := fun d ea xs => by
      obtain ⟨t0, G, J, sub, ga, at_⟩ := let_go (r2 := r2) (t2 := t2) I1 big old un hok eos bare ea
      refine ⟨hp.objs.size + 1, _, _, ⟨G, g2, r2, t2, os2⟩, _, .ref C, d, rfl, J, sub, ga, at_, ⟨rfl, rfl⟩, rfl, rfl, del_same, rfl, bare, raises_own T.exc T.ty, ho d _ (fun b o e => ?_) xs⟩
      have nb : b ≠ hp.objs.size + 1 := ne_of_none e free
      exact (del_ne nb).trans (k b o nb e)
    refine ⟨rel, ?_⟩
    rcases ex with ⟨e, ea⟩ | ⟨d, e, ea, ed⟩
    · exact fin none ea (.inl ⟨rfl, e⟩)
    · refine fin (some d) ea (.inr ⟨d, rfl, e, (del_ne fun z => ?_).trans ed⟩)
      obtain ⟨t0, at_⟩ := exo_at hok ea
      obtain ⟨mA, ⟨o, es, ep, e1, e2, _⟩, _⟩ := exd_at hok ed
      rw [z, at_] at e1
      have e3 := Option.some.inj e1
      subst e3
      cases e2
  | .ok .next, z => exact z.elim
  | .ok .brk, z => exact z.elim
  | .ok .cont, z => exact z.elim
  | .error er, z => exact z.elim
theorem pmk_xk {e : Expr} {es : List Expr} {t : TA} (T : Xk X.K C fI B newId initId bmB) (F : FnOk X.prog X.w X.K X.mg X.base CX0 n fI fd ps (spXI C fn)) (room : Room (n + 1) X.A) (bi : Binds X.K fd ps []) (hps : ps.length = fn.length + 1)
    (hg : Gl X x) (hm : X.mg x = some (.ref C)) (ha : PA X (e :: es) t) (nd : (x == ("__debug__" : Str)) = false := by decide)
    (se : starEach (e :: es) X.env = (false, eval e X.env) :: starEach es X.env := by rfl) (sn : (backTo pos (starEach es X.env)).any (·.1) = false := by rfl) :
    PMk X (.Call (.Name x p) (e :: es) [] pos) (tPmk C fn t) := by
  intro pins s σ H Q I h
  refine wpAny_Call_Name_kw (ld_glob I hg hm ?_ nd)
  refine PySem.W.callWith_K (h₀ := X.base) I.ok.mod.kin T.keep (thn (ha.run pos pins s σ H _ I h) fun us s1 ⟨vs, H1, I1, r1, hl, hz, q1⟩ => ⟨I1.kIn, ?_⟩) se sn
  show wpAny _ _ (call (.ref C) us) _ _ _
  obtain ⟨hp, g, dr, tk, os⟩ := s1
  obtain ⟨nm, N, qn, bs, bm, hdct, sb, sub, ab, col, dd, k0, k1, k2, k3, k5, hC, same⟩ := PySem.W.excInit_of I1.kIn T.made
  have lu : us.length = fn.length := r1.length.symm.trans hl
  refine wpAny_call (PySem.HandSPX.call_own T.fb same hC (PySem.W.looks_findIn I1.kIn T.init) (fun self => PySem.W.bind_fn I1.kIn self T.fn) (by rw [sizeLine_eq]; omega) ?_)
  refine codeAny_mono (pmade (Q := Q) T F room I1 us (us := us) (fun s2 k2 => ?_) r1 hl q1) fun r s' z => z
  have z := bi s2 (Value.ref (hp.objs.size + 1) :: us) k2 (by rw [List.append_nil, List.length_cons, lu, hps])
  rw [List.append_nil] at z
  exact z
theorem pmk_xk0 (T : Xk X.K C fI B newId initId bmB) (F : FnOk X.prog X.w X.K X.mg X.base CX0 n fI fd ps (spXI C [])) (room : Room (n + 1) X.A) (bi : Binds X.K fd ps []) (hps : ps.length = 1)
    (hg : Gl X x) (hm : X.mg x = some (.ref C)) (nd : (x == ("__debug__" : Str)) = false := by decide) : PMk X (.Call (.Name x p) [] [] pos) (tPmk C [] tNil) := by
  intro pins s σ H Q I h
  refine wpAny_Call_Name_kw (ld_glob I hg hm ?_ nd)
  refine PySem.W.callWith_K0 I.kIn T.keep ?_
  obtain ⟨hp, g, dr, tk, os⟩ := s
  obtain ⟨nm, N, qn, bs, bm, hdct, sb, sub, ab, col, dd, k0, k1, k2, k3, k5, hC, same⟩ := PySem.W.excInit_of I.kIn T.made
  refine wpAny_call (PySem.HandSPX.call_own T.fb same hC (PySem.W.looks_findIn I.kIn T.init) (fun self => PySem.W.bind_fn I.kIn self T.fn) (Nat.zero_le _) ?_)
  refine codeAny_mono (pmade (Q := Q) (vs := []) T F room I [] (us := []) (fun s2 k2 => ?_) .nil rfl h.2.2) fun r s' z => z
  exact bi s2 [Value.ref (hp.objs.size + 1)] k2 (by rw [List.append_nil, hps]; rfl)
end
/-! ### in an except suite -/
section
variable {X : Cx} {a : Addr} {oe : Obj} {cls : Value} {d : Option Addr} {pn : List (Addr × Obj)}
theorem held {D : Addr} {fs : List (Str × V)} {pins : List (Addr × Obj)} {σ : L2.St} {H : Hp} {s : Shared} (hz : Zc (.ref D) d oe) (hf : ∃ vs, oe.data = .fields vs) (I : Inv (X.suite a ((a, oe) :: pn)) pins σ H s) (x : ExS H d fs) :
    ∃ od, PySem.W.InstAt s.heap a oe D od := by
  obtain ⟨vs, hv⟩ := hf
  obtain ⟨at_, _⟩ := I.pin (a, oe) (List.mem_append_left _ List.mem_cons_self)
  have nc : PySem.W.notCls oe = true := by
    unfold PySem.W.notCls
    rw [hv]
  rcases x with ⟨rfl, _⟩ | ⟨dx, rfl, _, h⟩
  · exact ⟨none, at_, hz.1, nc, by rw [hz.2]; trivial⟩
  · obtain ⟨mA, hns, _⟩ := exd_at I.hok h
    obtain ⟨o, ho, _⟩ := lookIn_ns hns
    exact ⟨some o, at_, hz.1, nc, by rw [hz.2]; exact ho⟩
/-- isinstance(e, c) and isinstance(e, (c, ..)) of the exception that is held -/
def rHis (K : PySem.W.Frag) (a : Addr) (cls : Value) (d : Option Addr) : List V → Hp → VK → Prop := fun xs H Q => ∃ (D : Addr) (fs : List (Str × V)) (b : Bool), cls = .ref D ∧ ExS H d fs ∧ PySem.W.XcC K D ∧
  ((∃ (c : V) (u : Value), xs = [.ref a, c] ∧ ClsV c u ∧ PySem.W.kitOne K (.ref D) u = some b) ∨ ∃ (tp : Addr) (cs : List V) (us : List Value), xs = [.ref a, .ref tp] ∧ H tp = some (.tup cs) ∧ Paired ClsV cs us ∧ PySem.W.kitAny K (.ref D) us = some b) ∧ Q (.bl b) H
theorem call_his (hz : Zc cls d oe) (hf : ∃ vs, oe.data = .fields vs) : CallR (X.suite a ((a, oe) :: pn)) (.builtin "isinstance") (rHis X.K a cls d) := by
  intro pins s σ H xs us Q I r h
  obtain ⟨D, fs, b, rfl, x, T, k, q⟩ := h
  obtain ⟨od, J⟩ := held hz hf I x
  rcases k with ⟨c, u, rfl, k, e⟩ | ⟨tp, cs, ws, rfl, hT, k, e⟩
  · obtain ⟨u1, u2, rfl, r1, r2⟩ := vals2 r
    cases r1
    have e2 := k.eq r2
    subst e2
    exact PySem.W.kia_one (T.kit (x := a) (ox := oe)) I.kIn ⟨od, J⟩ e (fun z => nomatch z) fun tk => ⟨.bl b, H, I.tok tk, rfl, q⟩
  · obtain ⟨u1, u2, rfl, r1, r2⟩ := vals2 r
    cases r1
    cases r2
    obtain ⟨_, its, rv, o, h1, h2, n, h3⟩ := (show ObjOk X.prog X.w H s.heap tp (.tup cs) from I.hok tp _ hT)
    have e3 := ClsV.all k rv
    subst e3
    obtain ⟨oc, oD, dt, sl⟩ := o
    simp only at h2 h3
    subst h2 h3
    exact PySem.W.kia_tup (T.kit (x := a) (ox := oe)) I.kIn ⟨od, J⟩ h1 e (fun z => nomatch z) fun tk => ⟨.bl b, H, I.tok tk, rfl, q⟩
/-- e.n of the exception that is held -/
def tHfld (K : PySem.W.Frag) (a : Addr) (cls : Value) (d : Option Addr) (n : Str) (te : TE) : TE := fun σ H Q => te σ H fun x H1 => ∃ (D : Addr) (fs : List (Str × V)) (v : V), x = .ref a ∧ cls = .ref D ∧ ExS H1 d fs ∧ PySem.W.XcC K D ∧ PySem.W.findIn K (.ref D) n = some none ∧ fs.lookup n = some v ∧ Q v H1
theorem pe_hfld {e : Expr} {te : TE} {pos : Pos} {n : Str} (hz : Zc cls d oe) (hf : ∃ vs, oe.data = .fields vs) (he : PE (X.suite a ((a, oe) :: pn)) e te) (hb : attributeBase e n X.env (eval e X.env) = eval e X.env := by rfl) :
    PE (X.suite a ((a, oe) :: pn)) (.Attribute e n pos) (tHfld X.K a cls d n te) where
  run := fun pins s σ H Q I h => by
    refine attr_of hb (thn (he.run pins s σ H _ I h) fun u s1 hh => ?_)
    obtain ⟨x, H1, I1, rx, D, fs, v, ex, ec, xs, T, no, l, q⟩ := hh
    subst ex ec
    cases rx
    rcases xs with ⟨_, e⟩ | ⟨dx, ed, _, h2⟩
    · rw [e] at l
      cases l
    · subst ed
      obtain ⟨vs, hv⟩ := hf
      obtain ⟨at_, _⟩ := I1.pin (a, oe) (List.mem_append_left _ List.mem_cons_self)
      obtain ⟨mA, hns, rel⟩ := exd_at I1.hok h2
      obtain ⟨o, ho, look⟩ := lookIn_ns hns
      obtain ⟨w, hw, rw_⟩ := RelO.some_of (v := v) (o := mA n) (by rw [← l]; exact rel n)
      have J : PySem.W.InstAt s1.heap a oe D (some o) := ⟨at_, hz.1, by unfold PySem.W.notCls; rw [hv] <;> rfl, by rw [hz.2]; exact ho⟩
      exact PySem.HandSPX.exc_get I1.kIn J T.get T.get2 T.exc (PySem.W.findObj_own T.dict no rfl (by rw [look, hw])) (handed_of rw_) ⟨v, H1, I1.tok _, rw_, q⟩
end
/-! ### f(k = v, ..) of a def that may raise -/
section
variable {X : Cx} {CT : CXT} {k : Nat} {f : Addr} {fd : FuncData} {ps ks : List Str} {sp : Sp} {E : L2.St → XK} {x : Str} {p pos : Pos} {kws : List Keyword} {t : TA}
theorem pe_callW (F : FnOk X.prog X.w X.K X.mg X.base CT k f fd ps sp) (room : Room k X.A) (hg : Gl X x) (hm : X.mg x = some (.ref f)) (keep : PySem.W.keepIn X.K (.ref f) = true)
    (bi : ∀ (s : Shared) (ws : List Value), X.K.In s.heap → ws.length = ks.length → BindsTo s fd ⟨[], ks.zip ws⟩ (ps.zip ws)) (lk : ks.length = ps.length) (pass : ∀ σ, PassesAt CT X σ (E σ))
    (ha : PK X kws t) (hall : (backToKw pos (keywordEach kws X.env)).all (·.1.isSome) = true := by rfl) (hks : (backToKw pos (keywordEach kws X.env)).filterMap (·.1) = ks := by rfl)
    (nd : (x == ("__debug__" : Str)) = false := by decide) (sn : ((backTo pos (starEach [] X.env)).any (·.1) || (backToKw pos (keywordEach kws X.env)).any (·.1.isNone)) = false := by rfl) :
    PE X (.Call (.Name x p) [] kws pos) (tCallS sp E t) where
  run := fun pins s σ H Q I h => by
    refine wpAny_Call_Name_kw (ld_glob I hg hm ?_ nd)
    refine PySem.W.callWith_KW0 (h₀ := X.base) I.ok.mod.kin keep hall (thn (ha.run pos pins s σ H _ I h) fun ws s1 ⟨vs, H1, I1, r1, q1⟩ => ⟨I1.kIn, ?_⟩) sn
    rw [hks]
    show wpAny _ _ (call (.ref f) [] (ks.zip ws)) _ _ _
    have lw : ws.length = ks.length := (r1.length.symm.trans (F.len _ _ _ _ q1)).trans lk.symm
    refine wpAny_call (codeAny_mono (F.run X.A X.stack s1 H1 ⟨[], ks.zip ws⟩ ws vs Q (E σ) room I1.env0 (bi s1 ws I1.kIn lw) r1 q1) fun r s' z => ?_)
    match r, z with
    | .error er, z => exact pass σ pins H1 s1 er s' I1 z
    | .ok (.ret u), z => exact I1.after z
end
end PSG

set_option Elab.async false
set_option linter.all false
set_option maxRecDepth 100000
set_option maxHeartbeats 4000000
namespace PSG
open PySem PySem.Spec L2
open PyProof.Rows (IntsAre AllBare)
/-- repr(x) of data, also in an except suite -/
theorem call_reprH {X : Cx} (un : X.A.units + 200 < cLine) (gd : X.A.guards = some []) : CallR X (.builtin "repr") rRep := by
  intro pins s σ H xs us Q I r ho
  obtain ⟨x, d, far, rfl, dq, cl, sh, sz, dp, q⟩ := ho
  obtain ⟨u, rfl, rx⟩ := vals1 r
  obtain ⟨as, rd, no1⟩ := dq.reads I rx
  have nosys : d.hasDict = true → sysModules ∉ as := fun z => no1 (cl z)
  have fin : ∀ t, EP X pins σ Q (.str d.shown t) s := fun t => ⟨.str _, H, I, ⟨_, rfl⟩, q⟩
  have got : ∀ h' (t tk : Tok), (∀ b o, s.heap.get? b = some o → h'.get? b = some o) → EP X pins σ Q (.str d.shown t) { s with heap := h', toks := tk } := fun h' t tk k => ⟨.str _, H, I.kept k, ⟨_, rfl⟩, q⟩
  cases rd with
  | none => exact P.repr_of_none ⟨.str _, H, I.tok _, ⟨_, rfl⟩, by simpa only [PyData.shown] using q⟩
  | bool b =>
    refine P.repr_of_bool ⟨.str _, H, I.tok _, ⟨_, rfl⟩, ?_⟩
    simp only [PyData.shown] at q
    cases b <;> exact q
  | int i t => exact P.repr_of_int (by simpa [PyData.showable] using sh) ⟨.str _, H, I.tok _, ⟨_, rfl⟩, by simpa only [PyData.shown] using q⟩
  | str z t =>
    simp only [PyData.shown] at q sz
    exact P.repr_of_str ⟨.str _, H, I.tok _, ⟨_, rfl⟩, q⟩ sz
  | list h1 h2 h3 h4 => exact repr_of_reads' (Reads.list h1 h2 h3 h4) sh nosys gd (by omega) (fun _ _ z => z) (fun h' u tk k => got h' _ tk k) sz
  | tuple h1 h2 h3 h4 => exact repr_of_reads' (Reads.tuple h1 h2 h3 h4) sh nosys gd (by omega) (fun _ _ z => z) (fun h' u tk k => got h' _ tk k) sz
  | dict h1 h2 h3 h4 h5 => exact repr_of_reads' (Reads.dict h1 h2 h3 h4 h5) sh nosys gd (by omega) (fun _ _ z => z) (fun h' u tk k => got h' _ tk k) sz
theorem room_units {n : Nat} {A : Around} (r : Room n A) : A.units + 200 < cLine := by
  have h := r.un
  omega
end PSG

set_option Elab.async false
set_option linter.all false
set_option maxRecDepth 100000
set_option maxHeartbeats 4000000
namespace PSG
open PySem PySem.Spec L2
open PyProof.Rows (IntsAre AllBare)
/-! ### the exception that is held, where a pin bears it -/
section
variable {X : Cx} {a : Addr} {oe : Obj} {cls : Value} {d : Option Addr}
theorem heldP {D : Addr} {fs : List (Str × V)} {pins : List (Addr × Obj)} {σ : L2.St} {H : Hp} {s : Shared} (hp : (a, oe) ∈ X.pn) (hz : Zc (.ref D) d oe) (hf : ∃ vs, oe.data = .fields vs) (I : Inv X pins σ H s) (x : ExS H d fs) :
    ∃ od, PySem.W.InstAt s.heap a oe D od := by
  obtain ⟨vs, hv⟩ := hf
  obtain ⟨at_, _⟩ := I.pin (a, oe) (List.mem_append_left _ hp)
  have nc : PySem.W.notCls oe = true := by
    unfold PySem.W.notCls
    rw [hv]
  rcases x with ⟨rfl, _⟩ | ⟨dx, rfl, _, h⟩
  · exact ⟨none, at_, hz.1, nc, by rw [hz.2]; trivial⟩
  · obtain ⟨mA, hns, _⟩ := exd_at I.hok h
    obtain ⟨o, ho, _⟩ := lookIn_ns hns
    exact ⟨some o, at_, hz.1, nc, by rw [hz.2]; exact ho⟩
theorem call_hisP (hp : (a, oe) ∈ X.pn) (hz : Zc cls d oe) (hf : ∃ vs, oe.data = .fields vs) : CallR X (.builtin "isinstance") (rHis X.K a cls d) := by
  intro pins s σ H xs us Q I r h
  obtain ⟨D, fs, b, rfl, x, T, k, q⟩ := h
  obtain ⟨od, J⟩ := heldP hp hz hf I x
  rcases k with ⟨c, u, rfl, k, e⟩ | ⟨tp, cs, ws, rfl, hT, k, e⟩
  · obtain ⟨u1, u2, rfl, r1, r2⟩ := vals2 r
    cases r1
    have e2 := k.eq r2
    subst e2
    exact PySem.W.kia_one (T.kit (x := a) (ox := oe)) I.kIn ⟨od, J⟩ e (fun z => nomatch z) fun tk => ⟨.bl b, H, I.tok tk, rfl, q⟩
  · obtain ⟨u1, u2, rfl, r1, r2⟩ := vals2 r
    cases r1
    cases r2
    obtain ⟨_, its, rv, o, h1, h2, n, h3⟩ := (show ObjOk X.prog X.w H s.heap tp (.tup cs) from I.hok tp _ hT)
    have e3 := ClsV.all k rv
    subst e3
    obtain ⟨oc, oD, dt, sl⟩ := o
    simp only at h2 h3
    subst h2 h3
    exact PySem.W.kia_tup (T.kit (x := a) (ox := oe)) I.kIn ⟨od, J⟩ h1 e (fun z => nomatch z) fun tk => ⟨.bl b, H, I.tok tk, rfl, q⟩
theorem pe_hfldP {e : Expr} {te : TE} {pos : Pos} {n : Str} (hp : (a, oe) ∈ X.pn) (hz : Zc cls d oe) (hf : ∃ vs, oe.data = .fields vs) (he : PE X e te) (hb : attributeBase e n X.env (eval e X.env) = eval e X.env := by rfl) :
    PE X (.Attribute e n pos) (tHfld X.K a cls d n te) where
  run := fun pins s σ H Q I h => by
    refine attr_of hb (thn (he.run pins s σ H _ I h) fun u s1 hh => ?_)
    obtain ⟨x, H1, I1, rx, D, fs, v, ex, ec, xs, T, no, l, q⟩ := hh
    subst ex ec
    cases rx
    rcases xs with ⟨_, e⟩ | ⟨dx, ed, nn, h2⟩
    · rw [e] at l
      cases l
    · obtain ⟨od, J⟩ := heldP hp hz hf I1 (.inr ⟨dx, ed, nn, h2⟩)
      subst ed
      obtain ⟨mA, hns, rel⟩ := exd_at I1.hok h2
      obtain ⟨o, ho, look⟩ := lookIn_ns hns
      obtain ⟨w, hw, rw_⟩ := RelO.some_of (v := v) (o := mA n) (by rw [← l]; exact rel n)
      obtain ⟨vs, hv⟩ := hf
      obtain ⟨at_, _⟩ := I1.pin (a, oe) (List.mem_append_left _ hp)
      have J2 : PySem.W.InstAt s1.heap a oe D (some o) := ⟨at_, hz.1, by unfold PySem.W.notCls; rw [hv] <;> rfl, by rw [hz.2]; exact ho⟩
      exact PySem.HandSPX.exc_get I1.kIn J2 T.get T.get2 T.exc (PySem.W.findObj_own T.dict no rfl (by rw [look, hw])) (handed_of rw_) ⟨v, H1, I1.tok _, rw_, q⟩
end
/-! ### a def that is called within an except suite, and may ask the exception that is held -/
structure FnE (P : Program) (w : World) (K : PySem.W.Frag) (mg : Str → Option Value) (base : Heap) (n : Nat) (at_ : Addr) (fd : FuncData) (ps : List Str) (sp : Addr × Obj → Sp) : Prop where
  many : ∀ p vs H Q E, sp p vs H Q E → vs.length = ps.length
  goes : ∀ (B : Around) (up : List Env) (s : Shared) (H : Hp) (ar : Args) (us : List Value) (vs : List V) (Q : VK) (E : XK) (p : Addr × Obj),
    L2H.RoomH n B → B.guards = some [] → L2H.PinOk up H s p → Env0 P w K mg base B up s H → BindsTo s fd ar (ps.zip us) → Vals vs us → sp p vs H Q E →
    codeAny (model P w) B (.call (.ref at_) ar) (CR CX0 up P w H s Q E) s
section
variable {P : Program} {w : World} {K : PySem.W.Frag} {mg : Str → Option Value} {base : Heap}
theorem fnE {n : Nat} {x ql : Str} {st : Stmt} {at_ : Addr} {fd : FuncData} {N ps : List Str} {sp : Addr × Obj → Sp} (F : Fun K x ql st at_ fd) (S : FnScope N ps (defScope st)) (many : ∀ p vs H Q E, sp p vs H Q E → vs.length = ps.length)
    (main : ∀ (cdv : Value) (B : Around) (up : List Env) (s : Shared) (H : Hp) (vs : List V) (Q : VK) (E : XK) (p : Addr × Obj), L2H.RoomH n (B.deeper (PyProof.Rows.envOfC ql (defScope st) s.heap.objs.size at_ cdv)) → B.guards = some [] → sp p vs H Q E →
      ∃ t, PSs (L2H.cxH CX0 P w K mg base N ql (defScope st) at_ cdv B up s H E p).nox (defBody st) t ∧ t { nx := fun _ G => Q .non G, rt := Q } (L2.start N vs) H) : FnE P w K mg base (n + 1) at_ fd ps sp where
  many := many
  goes := by
    obtain ⟨oc, od, kV, doc, pm, an, cdv, ct, osl, rfl, lk, hcd⟩ := F.ex
    intro B up s H ar us vs Q E p room gd pin en bi va ho
    have keepB : ∀ b o, base.get? b = some o → s.heap.get? b = some o := fun b o z => (en.bs b o z).1
    have atK := en.mod.kin.keeps keepB
    refine codeAny_call_function room.depth (atK _ _ lk) rfl S.co S.gen rfl (PySem.W.codeRec_of atK hcd) (bi _ _ _ _ ?_)
    refine wpAny_newFunctionEnv_cells S.kind (fun y hy => ?_) fun env he t1 x => ?_
    · obtain ⟨n, v⟩ := y
      cases S.par n (List.of_mem_zip hy).1 with
      | inl z => exact .inl z
      | inr z => exact .inr ⟨z, PySem.W.cellsFrom_some _ _ _ (.inl z)⟩
    · cases he
      refine ⟨(en.mod.nolimit.keeps keepB).keeps x.toInCall.keep, codeAny_func ?_⟩
      obtain ⟨t, der, rd⟩ := main cdv B up s H vs Q E p (room.deeper _) gd ho
      have J := L2H.inv_startH (CX := CX0) (E := E) S pin en (many _ _ _ _ _ ho) va x
      refine wpAny_mono (der.nox.run [] t1 _ H _ J rd) ?_ fun _ _ z => z
      intro fl t2 z
      cases fl with
      | next =>
        obtain ⟨_, G, J2, q⟩ := z
        exact ⟨V.non, G, J2.os, J2.bare, J2.base, J2.hok, rfl, q⟩
      | ret u =>
        obtain ⟨v, _, G, J2, rel, q⟩ := z
        exact ⟨v, G, J2.os, J2.bare, J2.base, J2.hok, rel, q⟩
      | brk => exact (show False from z.choose_spec.choose_spec.2).elim
      | cont => exact (show False from z.choose_spec.choose_spec.2).elim
end
/-- f(e, ..) in the suite -/
def tCallE (p : Addr × Obj) (sp : Addr × Obj → Sp) (t : TA) : TE := fun σ H Q => t σ H fun vs H1 => sp p vs H1 Q (fun _ _ _ => False)
section
variable {X : Cx} {n : Nat} {at_ : Addr} {fd : FuncData} {ps : List Str} {sp : Addr × Obj → Sp} {x : Str} {pa pos : Pos} {e : Expr} {es : List Expr} {t : TA} {p : Addr × Obj}
theorem pe_callE (F : FnE X.prog X.w X.K X.mg X.base n at_ fd ps sp) (hp : p ∈ X.pn) (room : L2H.RoomH n X.A) (gd : X.A.guards = some []) (hg : Gl X x) (hm : X.mg x = some (.ref at_)) (keep : PySem.W.keepIn X.K (.ref at_) = true)
    (bi : Binds X.K fd ps []) (ha : PA X (e :: es) t) (nd : (x == ("__debug__" : Str)) = false := by decide)
    (se : starEach (e :: es) X.env = (false, eval e X.env) :: starEach es X.env := by rfl) (sn : (backTo pos (starEach es X.env)).any (·.1) = false := by rfl) :
    PE X (.Call (.Name x pa) (e :: es) [] pos) (tCallE p sp t) where
  run := fun pins s σ H Q I h => by
    refine wpAny_Call_Name_kw (ld_glob I hg hm (PySem.W.callWith_K (h₀ := X.base) I.ok.mod.kin keep (thn (ha.run pos pins s σ H _ I h) fun us s1 ⟨vs, H1, I1, r, q⟩ => ⟨I1.kIn, ?_⟩) se sn) nd)
    have many : us.length = ps.length := r.length.symm.trans (F.many _ _ _ _ _ q)
    have b := bi s1 us I1.kIn (by rw [List.append_nil]; exact many)
    rw [List.append_nil] at b
    obtain ⟨g1, g2, g3, g4, g5⟩ := I1.pin p (List.mem_append_left _ hp)
    have pin : L2H.PinOk X.stack H1 s1 p := ⟨g1, g2, fun hm => (List.mem_cons.mp (I1.stkSub p.1 hm)).elim g3 g4, g5⟩
    refine wpAny_call (codeAny_mono (F.goes X.A X.stack s1 H1 ⟨us, []⟩ us vs Q (fun _ _ _ => False) p room gd pin I1.env0 b r q) fun r s' z => ?_)
    match r, z with
    | .error er, z => exact z.elim
    | .ok (.ret u), z => exact I1.after z
/-- .. as the suite's own wish, which knows the exception's class and dict alone -/
def tCallH (a : Addr) (cls : Value) (d : Option Addr) (sp : Addr × Obj → Sp) (t : TA) : TE := fun σ H Q => t σ H fun vs H1 => ∀ oe : Obj, Zc cls d oe → (∃ ws, oe.data = .fields ws) → sp (a, oe) vs H1 Q (fun _ _ _ => False)
theorem pe_callH {a : Addr} {oe : Obj} {cls : Value} {d : Option Addr} {pn : List (Addr × Obj)} (hz : Zc cls d oe) (hf : ∃ ws, oe.data = .fields ws) (F : FnE X.prog X.w X.K X.mg X.base n at_ fd ps sp) (room : Room n X.A) (gd : X.A.guards = some []) (hg : Gl X x) (hm : X.mg x = some (.ref at_))
    (keep : PySem.W.keepIn X.K (.ref at_) = true) (bi : Binds X.K fd ps []) (ha : PA (X.suite a ((a, oe) :: pn)) (e :: es) t) (nd : (x == ("__debug__" : Str)) = false := by decide)
    (se : starEach (e :: es) X.env = (false, eval e X.env) :: starEach es X.env := by rfl) (sn : (backTo pos (starEach es X.env)).any (·.1) = false := by rfl) :
    PE (X.suite a ((a, oe) :: pn)) (.Call (.Name x pa) (e :: es) [] pos) (tCallH a cls d sp t) where
  run := fun pins s σ H Q I h => by
    refine wpAny_Call_Name_kw (ld_glob (X := X.suite a ((a, oe) :: pn)) I hg hm (PySem.W.callWith_K (h₀ := X.base) I.ok.mod.kin keep (thn (ha.run pos pins s σ H _ I h) fun us s1 ⟨vs, H1, I1, r, q⟩ => ⟨I1.kIn, ?_⟩) se sn) nd)
    have q := q oe hz hf
    have many : us.length = ps.length := r.length.symm.trans (F.many _ _ _ _ _ q)
    have b := bi s1 us I1.kIn (by rw [List.append_nil]; exact many)
    rw [List.append_nil] at b
    obtain ⟨g1, g2, g3, g4, g5⟩ := I1.pin (a, oe) (List.mem_append_left _ List.mem_cons_self)
    have pin : L2H.PinOk X.stack H1 s1 (a, oe) := ⟨g1, g2, fun hm => (List.mem_cons.mp (I1.stkSub a hm)).elim g3 g4, g5⟩
    refine wpAny_call (codeAny_mono (F.goes (X.A.mark (some (.ref a))) X.stack s1 H1 ⟨us, []⟩ us vs Q (fun _ _ _ => False) (a, oe) ⟨room.dp, room.un⟩ gd pin I1.env0 b r q) fun r s' z => ?_)
    match r, z with
    | .error er, z => exact z.elim
    | .ok (.ret u), z => exact I1.after z
theorem room_hot {n : Nat} {A : Around} (r : Room n A) (h : Option Value) : L2H.RoomH n (A.mark h) := ⟨r.dp, r.un⟩
theorem roomH_units {n : Nat} {A : Around} (r : L2H.RoomH n A) : A.units + 200 < cLine := by
  have h := r.un
  omega
end
end PSG

set_option Elab.async false
set_option linter.all false
set_option maxRecDepth 100000
set_option maxHeartbeats 8000000
namespace PSG
open PySem PySem.Spec L2
open PyProof.Rows (IntsAre AllBare)
/-! ### what a thing is -/
def tyD : PyData → String
  | .none => "NoneType"
  | .bool _ => "bool"
  | .int _ => "int"
  | .str _ => "str"
  | .list _ => "list"
  | .tuple _ => "tuple"
  | .dict _ => "dict"
theorem Dt.ty {K : PySem.W.Frag} {far : Bool} {H : Hp} {v : V} {d : PyData} (h : Dt far H v d) : TyX K H v (.type (tyD d)) := by
  cases h with
  | non => exact .base .non
  | bl b => exact .base (.bl b)
  | int i => exact .base (.int i)
  | str x => exact .base (.str x)
  | lst e _ _ => exact .base (.lst e)
  | tup e _ => exact .base (.tup e)
  | dict e _ => exact .base (.dK e)
def isI : PyData → Bool
  | .int _ => true
  | .bool _ => true
  | _ => false
def isB : PyData → Bool
  | .bool _ => true
  | _ => false
def isS : PyData → Bool
  | .str _ => true
  | _ => false
theorem kit_int {K : PySem.W.Frag} (d : PyData) : PySem.W.kitOne K (.type (tyD d)) (.type "int") = some (isI d) := by cases d <;> kernel_rfl
theorem kit_bool {K : PySem.W.Frag} (d : PyData) : PySem.W.kitOne K (.type (tyD d)) (.type "bool") = some (isB d) := by cases d <;> kernel_rfl
theorem kit_str {K : PySem.W.Frag} (d : PyData) : PySem.W.kitOne K (.type (tyD d)) (.type "str") = some (isS d) := by cases d <;> kernel_rfl
def isT : PyData → Bool
  | .tuple _ => true
  | _ => false
theorem kit_tuple {K : PySem.W.Frag} (d : PyData) : PySem.W.kitOne K (.type (tyD d)) (.type "tuple") = some (isT d) := by cases d <;> kernel_rfl
/-- [.. for c in text] -/
theorem lc_str {x : Str} {g : TG} {tt : TT} {te : TE} {vs : List Nat} {σ : L2.St} {H1 : Hp} {D : Addr} {Qd : Hp → Prop} (Pv : Nat → Hp → Prop) (h0 : Pv 0 (upd H1 D (.lst [])))
    (hs : ∀ i c H, x.cps[i]? = some c → Pv i H → g (.str ⟨#[c]⟩) (wipe σ vs) H fun σ2 H2 => wipe σ2 vs = wipe σ vs ∧ tt σ2 H2 fun b H3 =>
      if b = true then te σ2 H3 fun y H4 => ∃ acc, H4 D = some (.lst acc) ∧ acc.length < sizeLine ∧ Pv (i + 1) (upd H4 D (.lst (acc ++ [y]))) else Pv (i + 1) H3) (hd : ∀ H, Pv x.cps.size H → Qd H) :
    ∃ W : Nat → Nat → Hp → Prop, (∃ m, W 0 m (upd H1 D (.lst []))) ∧ ∀ i m H, W i m H →
      ((Its x).stop i H ∧ Qd H) ∨ ((Its x).go i H ∧ ∃ Nx : Hp → Prop, (∀ H', Nx H' → ∃ m', m' < m ∧ W (i + 1) m' H') ∧ ∀ v H', (Its x).yld i H v H' → g v (wipe σ vs) H' fun σ2 H2 => wipe σ2 vs = wipe σ vs ∧ tt σ2 H2 fun b H3 =>
        if b = true then te σ2 H3 fun y H4 => ∃ acc, H4 D = some (.lst acc) ∧ acc.length < sizeLine ∧ Nx (upd H4 D (.lst (acc ++ [y]))) else Nx H3) := by
  refine ⟨fun i m H => m = x.cps.size - i ∧ i ≤ x.cps.size ∧ Pv i H, ⟨_, rfl, Nat.zero_le _, h0⟩, fun i m H hw => ?_⟩
  obtain ⟨e, le, p⟩ := hw
  by_cases lt : i < x.cps.size
  · refine .inr ⟨lt, Pv (i + 1), fun H' q => ⟨x.cps.size - (i + 1), by omega, rfl, lt, q⟩, fun v H' y => ?_⟩
    obtain ⟨rfl, c, hc, rfl⟩ := y
    exact hs i c _ hc p
  · have e2 : i = x.cps.size := by omega
    refine .inl ⟨Nat.le_of_not_lt lt, hd H ?_⟩
    rw [← e2]
    exact p
/-- data with a short text, not deep -/
structure Fine (d : PyData) : Prop where
  sh : d.showable = true
  ln : d.shown.length ≤ 1000
  dp : d.depth ≤ 6
  ok : PyData.strOk d.shown = true
/-- a class of the package: its name, and how it is made -/
structure Own (P : Program) (w : World) (K : PySem.W.Frag) (mg : Str → Option Value) (base : Heap) (x : Str) (C : Addr) (fn : List Str) : Prop where
  glob : mg x = some (.ref C)
  made : ∃ (fI : Addr) (fd : FuncData) (ps : List Str) (B newId initId : String) (bmB : List Value), Xk K C fI B newId initId bmB ∧ FnOk P w K mg base CX0 1 fI fd ps (spXI C fn) ∧ Binds K fd ps [] ∧ ps.length = fn.length + 1
section
variable {X : Cx} {x : Str} {C : Addr} {fn : List Str} {p pos : Pos} {e : Expr} {es : List Expr} {t : TA}
theorem pmk_own1 (T : Own X.prog X.w X.K X.mg X.base x C fn) (hr : Room 2 X.A) (hg : Gl X x) (ha : PA X (e :: es) t) (nd : (x == ("__debug__" : Str)) = false := by decide)
    (se : starEach (e :: es) X.env = (false, eval e X.env) :: starEach es X.env := by rfl) (sn : (backTo pos (starEach es X.env)).any (·.1) = false := by rfl) : PMk X (.Call (.Name x p) (e :: es) [] pos) (tPmk C fn t) := by
  obtain ⟨fI, fd, ps, B, n1, n2, bm, T1, F, b, l⟩ := T.made
  exact pmk_xk T1 F hr b l hg T.glob ha nd se sn
theorem pmk_own0 (T : Own X.prog X.w X.K X.mg X.base x C []) (hr : Room 2 X.A) (hg : Gl X x) (nd : (x == ("__debug__" : Str)) = false := by decide) : PMk X (.Call (.Name x p) [] [] pos) (tPmk C [] tNil) := by
  obtain ⟨fI, fd, ps, B, n1, n2, bm, T1, F, b, l⟩ := T.made
  exact pmk_xk0 T1 F hr b l hg T.glob nd
end
theorem rep_thing {H : Hp} {v : V} {d : PyData} {Q : VK} (hd : Dt true H v d) (n : Fine d) (q : Q (.str d.shown) H) : rRep [v] H Q := by
  have h1 := n.ln
  have h2 := n.dp
  exact ⟨v, d, true, rfl, hd, fun _ => .inl rfl, n.sh, by rw [sizeLine_eq]; omega, by omega, q⟩
theorem ofString_ok (s : String) : PyData.strOk (Str.ofString s) = true := by
  unfold PyData.strOk
  rw [Str.ofString_eq_toList, Array.all_eq_true_iff_forall_mem]
  intro c hc
  simp only [List.mem_toArray, List.mem_map] at hc
  obtain ⟨ch, _, rfl⟩ := hc
  have v : ch.val.toNat < 0xd800 ∨ (0xdfff < ch.val.toNat ∧ ch.val.toNat < 0x110000) := ch.valid
  have e : ch.toNat = ch.val.toNat := rfl
  refine decide_eq_true ?_
  omega
theorem nice_small {i : Int} (h : i.natAbs ≤ 10 ^ 31) : Fine (.int i) := by
  refine ⟨?_, ?_, by simp [PyData.depth], ofString_ok _⟩
  · have lg : i.natAbs.log2 < 1920 := PySem.Flt.log2_lt_of (by decide) (Nat.lt_of_le_of_lt h (by decide +kernel))
    exact decide_eq_true lg
  · have e := PySem.int_text_length_le10 (k := 32) (a := i) (by decide) (Nat.lt_of_le_of_lt h (by decide +kernel))
    show (Str.ofString (toString i)).length ≤ 1000
    rw [PySem.ofString_length]
    omega
theorem okG {P : Program} {w : World} {K : PySem.W.Frag} {mg : Str → Option Value} {base : Heap} {x ql : Str} {st : Stmt} {f : Addr} {fd : FuncData} {N ps : List Str} {n : Nat} {sp : Sp} (F : Fun K x ql st f fd) (S : FnScope N ps (defScope st))
    (many : ∀ vs H Q E, sp vs H Q E → vs.length = ps.length)
    (main : ∀ (cdv : Value) (B : Around) (up : List Env) (s : Shared) (H : Hp) (vs : List V) (Q : VK) (E : XK), Room n (B.deeper (PyProof.Rows.envOfC ql (defScope st) s.heap.objs.size f cdv)) → B.guards = some [] → sp vs H Q E →
      ∃ t, PSs (cxOf CX0 P w K mg base N ql (defScope st) f cdv B up s H E).nox (defBody st) t ∧ t { nx := fun _ G => Q .non G, rt := Q } (start N vs) H) : FnG P w K mg base CX0 (n + 1) f fd ps sp := by
  obtain ⟨oc, od, kV, doc, pm, an, cdv, ct, osl, rfl, lk, hcd⟩ := F.ex
  refine fnG lk hcd S many fun B up s H vs Q E room gd ho => ?_
  obtain ⟨t, der, rd⟩ := main cdv B up s H vs Q E room gd ho
  exact ⟨t, der.nox, rd⟩
theorem fine_dec {d : PyData} (h : (d.showable && decide (d.shown.length ≤ 1000) && decide (d.depth ≤ 6) && PyData.strOk d.shown) = true) : Fine d := by
  simp only [Bool.and_eq_true, decide_eq_true_eq] at h
  exact ⟨h.1.1.1, h.1.1.2, h.1.2, h.2⟩
theorem dt_to {B H H' : Hp} {r : Addr} {v : V} {d : PyData} (h : Dt true (news B H) v d) (b : But r H H') (there : ∃ o, B r = some o) : Dt true H' v d := (h.same (news_but b there)).same news_sub
theorem strs_dp {K : PySem.W.Frag} {H : Hp} : ∀ l : List Str, DpAll K H (l.map V.str) (l.map PyData.str)
  | [] => .nil
  | x :: l => .cons (.str x) (strs_dp l)
theorem strs_lay : ∀ l : List Str, (∀ x ∈ l, PyData.strOk x = true) → PyData.canLayAll0 (l.map PyData.str) = true
  | [], _ => by simp [PyData.canLayAll0]
  | x :: l, h => by simp [PyData.canLayAll0, PyData.canLay0, h x List.mem_cons_self, strs_lay l fun y hy => h y (List.mem_cons_of_mem _ hy)]
theorem strs_depth : ∀ l : List Str, PyData.depthAll (l.map PyData.str) ≤ 1
  | [] => by simp [PyData.depthAll]
  | x :: l => by
    have ih := strs_depth l
    simp only [List.map_cons, PyData.depthAll, PyData.depth]
    omega
theorem strs_shaped {l : List Str} (h : ∀ x ∈ l, PyData.strOk x = true) : SeqAt.shaped (.list (l.map PyData.str)) = true := by
  have d := strs_depth l
  unfold SeqAt.shaped
  have e : (PyData.list (l.map PyData.str)).canLay0 = true := by simp only [PyData.canLay0, strs_lay l h]
  have e2 : (PyData.list (l.map PyData.str)).depth ≤ 64 := by simp only [PyData.depth]; omega
  rw [e, decide_eq_true e2]
  rfl
/-- two lists of the same texts are not unlike -/
theorem ne_strs {K : PySem.W.Frag} {H : Hp} {a p : Addr} {l : List Str} {Q : VK} (ok : ∀ x ∈ l, PyData.strOk x = true) (h1 : H a = some (.lst (l.map V.str))) (h2 : H p = some (.lst (l.map V.str))) (q : Q (.bl false) H) : rNeD K (.ref a) (.ref p) H Q := by
  refine ⟨_, _, .lst (SqL.of h1) (strs_dp l), .lst (SqL.of h2) (strs_dp l), strs_shaped ok, strs_shaped ok, ?_⟩
  rw [PySem.SeqAt.eqv_refl _ (by simp only [PyData.canLay0, strs_lay l ok])]
  exact q
/-- what the end asks of a class, in one look -/
def look (K : PySem.W.Frag) (C f : Addr) (bmB : List Value) (newId : String) (fs : List Str) : Bool :=
  PySem.W.excInitIn K C bmB newId && (PySem.W.excOver K C bmB && (PySem.W.hasDictIn K C && (decide (PySem.W.findIn K (.ref C) "__setattr__" = some (some (.builtin "object.__setattr__"))) &&
  (decide (PySem.W.typeIn K (.ref f) = some (.type "function")) && (PySem.W.keepIn K (.ref C) && (decide (PySem.W.subIn K (.ref C) (.type "BaseException") = some true) && (decide (PySem.W.typeIn K (.ref C) = some (.type "type")) &&
  (decide (PySem.W.findIn K (.ref C) "__getattribute__" = some (some (.builtin "BaseException.__getattribute__"))) && (decide (PySem.W.findIn K (.ref C) "__getattr__" = some none) && (decide (PySem.W.findIn K (.ref C) "__class__" = some (some (.builtin "object.__class__"))) &&
  (decide (PySem.W.mroIn K C (.type "object") = some true) && fs.all fun f => decide (PySem.W.findIn K (.ref C) f = some none))))))))))))
structure Look (K : PySem.W.Frag) (C f : Addr) (bmB : List Value) (newId : String) (fs : List Str) : Prop where
  made : PySem.W.excInitIn K C bmB newId = true
  over : PySem.W.excOver K C bmB = true
  dict : PySem.W.hasDictIn K C = true
  set : PySem.W.findIn K (.ref C) "__setattr__" = some (some (.builtin "object.__setattr__"))
  fn : PySem.W.typeIn K (.ref f) = some (.type "function")
  keep : PySem.W.keepIn K (.ref C) = true
  exc : PySem.W.subIn K (.ref C) (.type "BaseException") = some true
  ty : PySem.W.typeIn K (.ref C) = some (.type "type")
  get : PySem.W.findIn K (.ref C) "__getattribute__" = some (some (.builtin "BaseException.__getattribute__"))
  get2 : PySem.W.findIn K (.ref C) "__getattr__" = some none
  cls : PySem.W.findIn K (.ref C) "__class__" = some (some (.builtin "object.__class__"))
  obj : PySem.W.mroIn K C (.type "object") = some true
  no : ∀ f ∈ fs, PySem.W.findIn K (.ref C) f = some none
theorem look_ok {K : PySem.W.Frag} {C f : Addr} {bmB : List Value} {newId : String} {fs : List Str} (h : look K C f bmB newId fs = true) : Look K C f bmB newId fs := by
  unfold look at h
  simp only [Bool.and_eq_true, decide_eq_true_eq, List.all_eq_true] at h
  obtain ⟨h1, h2, h3, h4, h5, h6, h7, h8, h9, h10, h11, h12, h13⟩ := h
  exact ⟨h1, h2, h3, h4, h5, h6, h7, h8, h9, h10, h11, h12, h13⟩
theorem Look.xk {K : PySem.W.Frag} {C f : Addr} {B newId initId : String} {bmB : List Value} {fs : List Str} (L : Look K C f bmB newId fs) (i : PySem.W.findIn K (.ref C) "__init__" = some (some (.ref f))) (fb : ExcBaseFacts B newId initId bmB)
    (sf : StoreFacts B bmB "object.__setattr__" "object") : Xk K C f B newId initId bmB := ⟨fb, sf, L.made, L.over, L.dict, L.set, i, L.fn, L.keep, L.exc, L.ty⟩
theorem Look.xc {K : PySem.W.Frag} {C f : Addr} {newId : String} {bmB : List Value} {fs : List Str} (L : Look K C f bmB newId fs) (d1 : PySem.W.specialIn K (.builtin "object.__class__") "__get__" = some (some (.builtin "getset_descriptor.__get__")))
    (d2 : PySem.W.takesIn K (.builtin "object.__class__") = some true) : PySem.W.XcC K C := ⟨L.get, L.get2, L.exc, L.dict, L.cls, d1, d2, L.obj⟩
theorem ws_0 {ws : List V} (h : ws.length = ([] : List Str).length) : ws = [] := List.eq_nil_of_length_eq_zero h
theorem ws_1 {x : Str} {ws : List V} (h : ws.length = [x].length) : ∃ v, ws = [v] := match ws, h with | [v], _ => ⟨v, rfl⟩
end PSG

set_option Elab.async false
set_option linter.all false
set_option maxRecDepth 100000
set_option maxHeartbeats 8000000
namespace PSG
open PySem PySem.Spec L2
open PyProof.Rows (IntsAre AllBare)
/-- list(sequence): new, and not sys.modules -/
def rListF (K : PySem.W.Frag) : List V → Hp → VK → Prop := fun xs H Q => ∃ p ys, xs = [.ref p] ∧ (SqL K H p ys ∨ SqT K H p ys) ∧ ∀ l, H l = none → l ≠ sysModules → Q (.ref l) (upd H l (.lst ys))
theorem call_list_ofF {X : Cx} : CallR X (.type "list") (rListF X.K) := by
  intro pins s σ H xs us Q I r ho
  obtain ⟨p, ys, rfl, where_, q⟩ := ho
  obtain ⟨u, rfl, rx⟩ := vals1 r
  cases rx
  have far : s.heap.objs.size ≠ sysModules := Nat.ne_of_gt I.big
  have done : ∀ (its : List Value) (g : Heap) (n : Nat), Vals ys its → ys.length ≤ sizeLine → (∀ b o, s.heap.get? b = some o → g.get? b = some o) → g.get? s.heap.objs.size = some { cls := .type "list", dict := none, data := .seq its.toArray n, slots := #[] } →
      EP X pins σ Q (.ref s.heap.objs.size) { s with heap := g } := fun its g n rv sz k e =>
    ⟨.ref s.heap.objs.size, _, I.laid (t' := s.toks) k (Nat.le_refl _) (show ObjOk X.prog X.w _ g _ (.lst ys) from ⟨sz, its, n, rv, e⟩), rfl, q _ (I.hok.fresh (Nat.le_refl _)) far⟩
  rcases where_ with w | w
  · obtain ⟨its, rv, pl, sz⟩ := I.list w
    have len := rv.length
    obtain ⟨o, ho, hc, n, hd⟩ := pl.isList
    refine call_list_seq p (.inl rfl) ho hc hd (fun g n k e => done its g n rv sz k e) ?_
    simp only [List.size_toArray] <;> omega
  · obtain ⟨its, rv, pl, sz⟩ := I.tuple w
    have len := rv.length
    obtain ⟨o, ho, hc, n, hd⟩ := pl
    refine call_list_seq p (.inr rfl) ho hc hd (fun g n k e => done its g n rv sz k e) ?_
    simp only [List.size_toArray] <;> omega
/-! ### texts of tuples of small things -/
theorem ok_app {x y : Str} (h1 : PyData.strOk x = true) (h2 : PyData.strOk y = true) : PyData.strOk (x ++ y) = true := by
  unfold PyData.strOk at *
  show (x.cps ++ y.cps).all _ = true
  rw [Array.all_append, h1, h2]
  rfl
theorem ok_join {sep : Str} (hs : PyData.strOk sep = true) : ∀ ts : List Str, (∀ t ∈ ts, PyData.strOk t = true) → PyData.strOk (Str.join sep ts) = true
  | [], _ => by
    show PyData.strOk (⟨#[]⟩ : Str) = true
    decide +kernel
  | [x], h => h x List.mem_cons_self
  | x :: y :: r, h => ok_app (ok_app (h x List.mem_cons_self) hs) (ok_join hs (y :: r) fun t ht => h t (List.mem_cons_of_mem _ ht))
theorem ok_tuple {ts : List Str} (h : ∀ t ∈ ts, PyData.strOk t = true) : PyData.strOk (tupleText ts) = true := by
  unfold tupleText
  refine ok_app (ok_app (by decide +kernel) (ok_join (by decide +kernel) ts h)) ?_
  split <;> decide +kernel
/-- a thing that may stand within a tuple -/
structure El (d : PyData) : Prop where
  sh : d.showable = true
  ln : d.shown.length ≤ 40
  dp : d.depth ≤ 4
  ok : PyData.strOk d.shown = true
theorem el_dec {d : PyData} (h : (d.showable && decide (d.shown.length ≤ 40) && decide (d.depth ≤ 4) && PyData.strOk d.shown) = true) : El d := by
  simp only [Bool.and_eq_true, decide_eq_true_eq] at h
  exact ⟨h.1.1.1, h.1.1.2, h.1.2, h.2⟩
theorem els_all : ∀ {ds : List PyData}, (∀ d ∈ ds, El d) → PyData.showableAll ds = true ∧ ((PyData.shownAll ds).map (·.length)).sum ≤ 40 * ds.length ∧ PyData.depthAll ds ≤ 4 ∧ (PyData.shownAll ds).length = ds.length ∧ ∀ t ∈ PyData.shownAll ds, PyData.strOk t = true
  | [], _ => by simp [PyData.showableAll, PyData.shownAll, PyData.depthAll]
  | d :: ds, h => by
    obtain ⟨h1, h2, h3, h4, h5⟩ := els_all (ds := ds) fun x hx => h x (List.mem_cons_of_mem _ hx)
    have n := h d List.mem_cons_self
    have n2 := n.ln
    have n3 := n.dp
    refine ⟨by simp only [PyData.showableAll, n.sh, h1, Bool.and_self], ?_, ?_, ?_, ?_⟩
    · simp only [PyData.shownAll, List.map_cons, List.sum_cons, List.length_cons]
      omega
    · simp only [PyData.depthAll]
      omega
    · simp only [PyData.shownAll, List.length_cons, h4]
    · intro t ht
      simp only [PyData.shownAll, List.mem_cons] at ht
      rcases ht with rfl | ht
      · exact n.ok
      · exact h5 t ht
theorem fine_tuple {ds : List PyData} (few : ds.length ≤ 21) (h : ∀ d ∈ ds, El d) : Fine (.tuple ds) := by
  obtain ⟨h1, h2, h3, h4, h5⟩ := els_all h
  refine ⟨by simpa only [PyData.showable] using h1, ?_, ?_, ok_tuple h5⟩
  · have l := tupleText_len_le (PyData.shownAll ds)
    show (tupleText (PyData.shownAll ds)).length ≤ 1000
    omega
  · simp only [PyData.depth]
    omega
end PSG

set_option Elab.async false
set_option linter.all false
set_option maxRecDepth 100000
set_option maxHeartbeats 4000000
/-! tuple(text) -/
namespace PSZ
open PySem PySem.Spec
section
variable {prog : Program} {w : World} {A : Around} {E : Value → Shared → Prop} {s : Shared} {x : Str} {t : Tok}
/-- what is laid: the signs of the text, one by one -/
def Laid (s : Shared) (x : Str) (q : Value → Shared → Prop) : Prop :=
  ∀ (s' : Shared) (acc : Array Value), (∀ b o, s.heap.get? b = some o → s'.heap.get? b = some o) → s'.gens = s.gens → s'.drawn = s.drawn → s'.os = s.os → ItemsOf (SignAt x) acc x.cps.size →
    q (.ref s'.heap.objs.size) { s' with heap := s'.heap.push { cls := .type "tuple", data := .seq acc } }
theorem text_new {q : Value → Shared → Prop} (hd : A.handled = none) (few : x.cps.size ≤ sizeLine) (h : Laid s x q) : codeAny (model prog w) A (.call (.builtin "tuple.__new__") ⟨[.type "tuple", .str x t], []⟩) (wants q E) s := by
  refine codeAny_of_tree ?_
  show wpAny _ A.in1 (do checkBuiltinCall "tuple.__new__" ⟨[.type "tuple", .str x t], []⟩; again (.builtin "tuple.__new__" ⟨[.type "tuple", .str x t], []⟩)) _ _ s
  refine wpAny_bind (wpAny_of_eq (F.newCall_tuple_1 _) (wpAny_pure ⟨plainId_quiet F.plain_tuple_new _, codeAny_builtin F.entry_tuple_new ?_⟩))
  rw [Around.under_plainId F.plain_tuple_new _]
  have k1 := sub_tuple_self
  have k2 := init_tuple_lookup
  have k3 := madeHere_tuple
  have ty : s.TypeIs (.str x t) "str" := typeIs_str _ _ _
  have hd1 : A.in1.handled = none := hd
  wp_walk using wpAny_typeOf ty, wpAny_collect_str (A := A.in1) hd1 x t
  first
    | (intro s' acc k e1 e2 e3 its
       show wpAny _ _ (Builtin.Tuple.tupleExact acc.toList.toArray >>= fun v => ret v) _ _ _
       unfold Builtin.Tuple.tupleExact
       refine wpAny_bind (wpAny_newObj_type ?_ (by show acc.toList.toArray.size ≤ sizeLine; simp only [Array.toArray_toList]; rw [its.1]; exact few))
       refine wpAny_pure ?_
       have e : acc.toList.toArray = acc := by simp
       rw [e]
       exact h s' acc k e1 e2 e3 its)
    | skip
theorem call_text {Q : Value → Shared → Prop} (hd : A.handled = none) (few : x.cps.size ≤ sizeLine) (h : Laid s x Q) : wpAny (model prog w) A (call (.type "tuple") [.str x t]) Q E s := by
  refine callType_codes (Q₁ := fun obj s₁ => s₁.TypeIs obj "tuple" ∧ Q obj s₁) F.called_tuple (F.typeCall_tuple_1 _) F.entry_object_init
    (text_new (A := A.in1) hd few fun s' acc k e1 e2 e3 its => ⟨⟨_, Heap.get?_push_size _ rfl, rfl⟩, h s' acc k e1 e2 e3 its⟩) fun obj s₁ h₁ => ?_
  exact ⟨h₁.1, F.args_object_init_2 obj _, object_init_meets F.called_tuple.init.lookup F.called_tuple.made (by decide) prog w A.in1 _ s₁ ⟨h₁.1, rfl, h₁.2⟩⟩
end
end PSZ
namespace PSG
open PySem PySem.Spec L2
open PyProof.Rows (IntsAre AllBare)
theorem signs_vals : ∀ (cs : List Nat) (us : List Value), us.length = cs.length → (∀ (j : Nat) (v : Value), us[j]? = some v → ∃ (c : Nat) (u : Tok), cs[j]? = some c ∧ v = Value.str ⟨#[c]⟩ u) → Vals (cs.map fun c => V.str ⟨#[c]⟩) us
  | [], [], _, _ => .nil
  | [], _ :: _, h, _ => by cases h
  | _ :: _, [], h, _ => by cases h
  | c :: cs, u :: us, h, k => by
    obtain ⟨d, t, e1, e2⟩ := k 0 u rfl
    have e3 : c = d := by simpa using e1
    subst e3 e2
    exact .cons ⟨t, rfl⟩ (signs_vals cs us (by simpa using h) fun j v e => k (j + 1) v (by simpa using e))
def rTupS : List V → Hp → VK → Prop := fun xs H Q => ∃ x : Str, xs = [.str x] ∧ x.length ≤ 1000 ∧ ∀ l, H l = none → Q (.ref l) (upd H l (.tup (x.cps.toList.map fun c => V.str ⟨#[c]⟩)))
theorem call_tupleS {X : Cx} (calm : X.calm = true) : CallR X (.type "tuple") rTupS := by
  intro pins s σ H xs us Q I r h
  obtain ⟨x, rfl, few, q⟩ := h
  obtain ⟨u, rfl, t, rfl⟩ := vals1 r
  have few2 : x.cps.size ≤ sizeLine := by
    have e : x.cps.size = x.length := rfl
    rw [sizeLine_eq]
    omega
  refine PSZ.call_text (I.ok.hd calm) few2 fun s' acc k e1 e2 e3 its => ?_
  obtain ⟨h', g', d', t', o'⟩ := s'
  dsimp only at e1 e2 e3 k
  subst e1 e2 e3
  have I1 : Inv X pins σ H { s with heap := h', toks := t' } := I.kept (t' := t') k
  have va : Vals (x.cps.toList.map fun c => V.str ⟨#[c]⟩) acc.toList := signs_vals _ _ (by rw [Array.length_toList, Array.length_toList]; exact its.1) fun j v e => by
    obtain ⟨c, u, e4, e5⟩ := its.2 j v (by rw [← Array.getElem?_toList]; exact e)
    exact ⟨c, u, by rw [Array.getElem?_toList]; exact e4, e5⟩
  have I2 := I1.laid (t' := t') (a := h'.objs.size) (h' := h'.push { cls := .type "tuple", data := .seq acc }) (o := .tup (x.cps.toList.map fun c => V.str ⟨#[c]⟩)) (fun b o e => Heap.get?_push_of_some _ e) (Nat.le_refl _)
    ⟨by rw [List.length_map, Array.length_toList]; exact few2, acc.toList, va, ⟨_, Heap.get?_push_size _ rfl, rfl, 0, by simp⟩⟩
  exact ⟨.ref h'.objs.size, _, I2, rfl, q _ (I1.hok.fresh (Nat.le_refl _))⟩
end PSG

set_option Elab.async false
set_option linter.all false
set_option maxRecDepth 100000
set_option maxHeartbeats 8000000
/-! sets of numbers and texts, with what a walk over them wants: add, set(xs), len, sorted -/
namespace PSS
open PySem PySem.Spec PyProof.Rows L2
instance memK (k : Key) (L : List Key) : Decidable (k ∈ L) := @List.instDecidableMemOfLawfulBEq Key instBEqOfDecidableEq inferInstance k L
def kOf : Value → Key
  | .int i _ => .inl i
  | .str x _ => .inr x
  | _ => .inl 0
theorem kOf_rel {k : Key} {u : Value} (r : RelV (kV k) u) : kOf u = k := by
  cases k with
  | inl i => obtain ⟨t, rfl⟩ := r; rfl
  | inr x => obtain ⟨t, rfl⟩ := r; rfl
abbrev eK (e : Int × Value) : Key := kOf e.2
def Ent (P : Program) (w : World) (e : Int × Value) : Prop := ∃ k : Key, RelV (kV k) e.2 ∧ e.1 = (mixKind P w).hash k
theorem ent_is {P : Program} {w : World} {e : Int × Value} (n : Ent P w e) (k : Key) : (mixKind P w).is k e.2 = true ↔ eK e = k := by
  obtain ⟨j, r, _⟩ := n
  have i1 : (mixKind P w).is j e.2 = true := kV_is r
  rw [show eK e = j from kOf_rel r]
  exact ⟨fun z => (mixKind P w).inj _ _ _ i1 z, fun z => z ▸ i1⟩
theorem ents_el {P : Program} {w : World} {es : List (Int × Value)} (n : ∀ e ∈ es, Ent P w e) : ElemsOf (mixKind P w) es := by
  intro e he
  obtain ⟨j, r, h⟩ := n e he
  exact ⟨⟨j, kV_is r, h⟩, key_scan r⟩
theorem ents_mem {P : Program} {w : World} {es : List (Int × Value)} (n : ∀ e ∈ es, Ent P w e) (k : Key) : k ∈ es.map eK ↔ ∃ e ∈ es, (mixKind P w).is k e.2 = true := by
  rw [List.mem_map]
  exact ⟨fun ⟨e, he, z⟩ => ⟨e, he, (ent_is (n e he) k).2 z⟩, fun ⟨e, he, z⟩ => ⟨e, he, (ent_is (n e he) k).1 z⟩⟩
/-- the set at a has just the keys L -/
structure Is (P : Program) (w : World) (h : Heap) (a : Addr) (L : List Key) (o : Obj) (es : Array (Int × Value)) (ep : Nat) (t : SetTable) : Prop where
  at_ : h.get? a = some o
  ex : o.ExactSet
  da : o.data = .set es ep t
  en : ∀ e ∈ es.toList, Ent P w e
  pm : (es.toList.map eK).Perm L
  nd : L.Nodup
  sz : L.length < scanBound
  ft : t.fits es.size = true
  ri : Ris t.place.toList
  le : w.params.followText "set-order" = true ∨ t.led = true
def SetM (P : Program) (w : World) (h : Heap) (a : Addr) (L : List Key) : Prop := ∃ o es ep t, Is P w h a L o es ep t
section
variable {P : Program} {w : World} {h h' : Heap} {a : Addr} {L : List Key} {o : Obj} {es : Array (Int × Value)} {ep : Nat} {t : SetTable}
theorem Is.len (I : Is P w h a L o es ep t) : es.size = L.length := by
  have e := I.pm.length_eq
  rw [List.length_map, Array.length_toList] at e
  exact e
theorem SetM.to (M : SetM P w h a L) (k : ∀ o, h.get? a = some o → h'.get? a = some o) : SetM P w h' a L := by
  obtain ⟨o, es, ep, t, I⟩ := M
  exact ⟨o, es, ep, t, { I with at_ := k o I.at_ }⟩
theorem SetM.setOf (M : SetM P w h a L) : h.SetOf (mixKind P w) a (fun k => decide (k ∈ L)) L.length := by
  obtain ⟨o, es, ep, t, I⟩ := M
  refine ⟨o, es, ep, t, I.at_, I.ex, I.da, ents_el I.en, fun k => ?_, by rw [I.len]; exact I.sz, I.ft, I.len⟩
  rw [decide_eq_true_eq, ← I.pm.mem_iff]
  exact ents_mem I.en k
theorem SetM.perm {L' : List Key} (M : SetM P w h a L) (p : L.Perm L') : SetM P w h a L' := by
  obtain ⟨o, es, ep, t, I⟩ := M
  exact ⟨o, es, ep, t, { I with pm := I.pm.trans p, nd := p.nodup_iff.mp I.nd, sz := by rw [← p.length_eq]; exact I.sz }⟩
end
/-- k put in -/
def ins (L : List Key) (k : Key) : List Key := if k ∈ L then L else L ++ [k]
theorem ins_old {L : List Key} {k : Key} (m : k ∈ L) : ins L k = L := if_pos m
theorem ins_new {L : List Key} {k : Key} (m : k ∉ L) : ins L k = L ++ [k] := if_neg m
theorem mem_ins {L : List Key} {k j : Key} : j ∈ ins L k ↔ j ∈ L ∨ j = k := by
  unfold ins
  split
  · next m => exact ⟨.inl, fun z => z.elim id fun e => e ▸ m⟩
  · simp
theorem nd_ins {L : List Key} (n : L.Nodup) (k : Key) : (ins L k).Nodup := by
  unfold ins
  split
  · exact n
  · next m =>
    refine List.nodup_append.mpr ⟨n, by simp, fun x hx y hy e => m ?_⟩
    have e2 : y = k := by simpa using hy
    rw [← e2, ← e]
    exact hx
theorem len_ins (L : List Key) (k : Key) : (ins L k).length ≤ L.length + 1 := by
  unfold ins
  split
  · omega
  · simp
section
variable {P : Program} {w : World} {A : Around} {E : Value → Shared → Prop} {s : Shared} {a : Addr} {L : List Key}
/-- the end of an add: what was laid is stored, and laid anew where it is too full -/
theorem add_end {note : Bool → Sem Unit} (hg : ∀ (b : Bool) (s₁ : Shared) (Q' : Unit → Shared → Prop), Q' () s₁ → wpAny (model P w) A (note b) Q' E s₁)
    {o : Obj} {es fs : Array (Int × Value)} {ep : Nat} {t u : SetTable} (ho : s.heap.get? a = some o) (hex : o.ExactSet) (hd : o.data = .set es ep t)
    (en : ∀ e ∈ fs.toList, Ent P w e) (pm : (fs.toList.map eK).Perm L) (nd : L.Nodup) (sz : L.length < scanBound) (ft : u.fits fs.size = true) (ri : Ris u.place.toList) (le : w.params.followText "set-order" = true ∨ u.led = true)
    {dummy : Bool} {R : Option Bool → Shared → Prop} (hR : ∀ g, Heap.SameBut a s.heap g → SetM P w g a L → R (some true) { s with heap := g }) :
    wpAny (model P w) A (do
        storeSet a fs u
        if (!dummy && u.tooFull) = true then do
            note (relayAll u fs (SetTable.grown fs.size)).2.2
            storeSet a (relayAll u fs (SetTable.grown fs.size)).1 (relayAll u fs (SetTable.grown fs.size)).2.1
            pure (some true)
          else pure (some true)) R E s := by
  have fsz : fs.size = L.length := by
    have e := pm.length_eq
    rw [List.length_map, Array.length_toList] at e
    exact e
  have fb : fs.size < scanBound := by rw [fsz]; exact sz
  have o1 := store_at (es' := fs) (t' := u) ho hd
  have b1 := Heap.SameBut.update s.heap a (Obj.putSet fs u)
  refine wpAny_bind (wpAny_storeSet_of ho hd ?_ (fits_of_scanBound fb))
  by_cases full : (!dummy && u.tooFull) = true
  · rw [if_pos full]
    have p2 := relayAll_perm u fs (SetTable.grown fs.size)
    have f2 := relayAll_fits u fs (SetTable.grown fs.size)
    have r2 := relayAll_ris u fs (SetTable.grown fs.size)
    have l2 := relayAll_led u fs (SetTable.grown fs.size)
    generalize relayAll u fs (SetTable.grown fs.size) = Z at p2 f2 r2 l2 ⊢
    obtain ⟨gs, v, gave⟩ := Z
    dsimp only at p2 f2 r2 l2 ⊢
    have gsz : gs.size = fs.size := by
      have e := p2.length_eq
      rw [Array.length_toList, Array.length_toList] at e
      exact e
    have gb : gs.size < scanBound := by omega
    refine wpAny_bind (hg _ _ _ (wpAny_bind (wpAny_storeSet_of o1 rfl ?_ (fits_of_scanBound gb))))
    have o2 := store_at (es' := gs) (t' := v) o1 rfl
    exact wpAny_pure (hR _ (b1.trans (Heap.SameBut.update _ a _)) ⟨_, gs, _, v,
      { at_ := o2, ex := hex, da := rfl, en := fun e he => en e (p2.mem_iff.mp he), pm := (p2.map eK).trans pm, nd := nd, sz := sz, ft := f2, ri := r2, le := le.imp id fun z => by rw [l2]; exact z }⟩)
  · rw [if_neg full]
    exact wpAny_pure (hR _ b1 ⟨_, fs, _, u, { at_ := o1, ex := hex, da := rfl, en := en, pm := pm, nd := nd, sz := sz, ft := ft, ri := ri, le := le }⟩)
theorem add_hashed {k : Key} {x : Value} (rx : RelV (kV k) x) {Q : Bool → Shared → Prop} (M : SetM P w s.heap a L) (room : L.length + 1 < scanBound)
    (hQ : ∀ g b, Heap.SameBut a s.heap g → SetM P w g a (ins L k) → Q b { s with heap := g }) :
    wpAny (model P w) A (setAddHashed a x ((mixKind P w).hash k)) Q E s := by
  obtain ⟨o, es, ep, t, I⟩ := M
  have ik : (mixKind P w).is k x = true := kV_is rx
  have sc : x.scannable = true := key_scan rx
  have el : ElemsOf (mixKind P w) es.toList := ents_el I.en
  have eb : es.size < scanBound := by rw [I.len]; exact I.sz
  unfold setAddHashed setAddHashedIn
  refine wpAny_holding (wpAny_bind (wpAny_setState_of I.at_ I.da I.ft ?_))
  dsimp only
  rw [byScan_of sc eb el]
  simp only [↓reduceIte]
  unfold setAddByScan
  refine wpAny_bind (wpAny_bind (wpAny_rule (wpAny_bind (wpAny_setScan_of ik I.at_ I.da I.ft el ?_))))
  cases found : List.findIdx? (fun e => (mixKind P w).is k e.2) es.toList with
  | some j =>
    obtain ⟨hj, pj, _⟩ := List.findIdx?_eq_some_iff_getElem.mp found
    have old : k ∈ L := I.pm.mem_iff.mp ((ents_mem I.en k).2 ⟨_, List.getElem_mem hj, pj⟩)
    dsimp only
    refine wpAny_pure (wpAny_pure (hQ s.heap _ (Heap.SameBut.refl a s.heap) ?_))
    rw [ins_old old]
    exact ⟨o, es, ep, t, I⟩
  | none =>
    dsimp only
    have new : k ∉ L := fun z => by
      obtain ⟨e, he, q⟩ := (ents_mem I.en k).1 (I.pm.mem_iff.mpr z)
      have c := List.findIdx?_eq_none_iff.mp found e he
      rw [q] at c
      cases c
    have note : ∀ (b : Bool) (s₁ : Shared) (Q' : Unit → Shared → Prop), Q' () s₁ → wpAny (model P w) A (match b with | true => rule "set.scan.the-table-gave-way" | false => pure ()) Q' E s₁ := by
      intro b s₁ Q' q
      cases b
      · exact wpAny_pure q
      · exact wpAny_rule q
    have p1 := layNew_perm t es ((mixKind P w).hash k) x
    have f1 := layNew_fits t es ((mixKind P w).hash k) x
    have r1 := layNew_ris t es ((mixKind P w).hash k) x I.ri
    have l1 := layNew_led t es ((mixKind P w).hash k) x
    generalize layNew t es ((mixKind P w).hash k) x = Z at p1 f1 r1 l1 ⊢
    obtain ⟨fs, u, dummy, gave⟩ := Z
    dsimp only at p1 f1 r1 l1 ⊢
    rw [Array.toList_push] at p1
    have p2 : fs.toList.Perm (es.toList ++ [((mixKind P w).hash k, x)]) := p1
    have p3 : (fs.toList.map eK).Perm (L ++ [k]) := by
      have z := p2.map eK
      rw [List.map_append] at z
      have ek : eK ((mixKind P w).hash k, x) = k := kOf_rel rx
      rw [show List.map eK [((mixKind P w).hash k, x)] = [k] from by rw [List.map_cons, ek] <;> rfl] at z
      exact z.trans (I.pm.append_right _)
    have e1 : ∀ e ∈ fs.toList, Ent P w e := fun e he => by
      rcases List.mem_append.mp (p2.mem_iff.mp he) with z | z
      · exact I.en e z
      · rw [List.mem_singleton.mp z]
        exact ⟨k, rx, rfl⟩
    have n1 : (L ++ [k]).Nodup := by
      rw [← ins_new new]
      exact nd_ins I.nd k
    have z1 : (L ++ [k]).length < scanBound := by
      rw [List.length_append]
      exact room
    have led1 : w.params.followText "set-order" = true ∨ u.led = true := I.le.imp id fun z => by rw [l1]; exact z
    have fin : ∀ g, Heap.SameBut a s.heap g → SetM P w g a (L ++ [k]) → Q true { s with heap := g } := fun g sb m => hQ g true sb (by rw [ins_new new]; exact m)
    refine wpAny_bind (note _ _ _ ?_)
    split
    · refine wpAny_bind ?_
      rw [hashByValue_scannable 8 sc]
      refine wpAny_pure (add_end note I.at_ I.ex I.da e1 p3 n1 z1 ?_ ?_ ?_ fun g sb m => wpAny_pure (fin g sb m))
      · first | exact f1 | (split <;> first | exact f1 | exact SetTable.fits_plain_off f1)
      · first | exact r1 | (split <;> exact r1)
      · first | exact led1 | (split <;> exact led1)
    · refine wpAny_bind (wpAny_pure ?_)
      simp only [↓reduceIte]
      exact add_end note I.at_ I.ex I.da e1 p3 n1 z1 f1 r1 led1 fun g sb m => wpAny_pure (fin g sb m)
end
end PSS

set_option Elab.async false
set_option linter.all false
set_option maxRecDepth 100000
set_option maxHeartbeats 8000000
/-! set(xs) of a list or a tuple of keys -/
namespace PSS
open PySem PySem.Spec PyProof.Rows L2
/-- the different keys of a list, in sequence -/
def sof (ks : List Key) : List Key := ks.foldl ins []
theorem sof_app (ks : List Key) (k : Key) : sof (ks ++ [k]) = ins (sof ks) k := by
  unfold sof
  rw [List.foldl_append]
  rfl
theorem sof_take {ks : List Key} {i : Nat} {k : Key} (h : ks[i]? = some k) : sof (ks.take (i + 1)) = ins (sof (ks.take i)) k := by
  rw [List.take_add_one, h]
  exact sof_app _ _
theorem foldl_nd : ∀ (ks L : List Key), L.Nodup → (ks.foldl ins L).Nodup
  | [], _, h => h
  | k :: ks, _, h => foldl_nd ks _ (nd_ins h k)
theorem foldl_mem : ∀ (ks L : List Key) (j : Key), j ∈ ks.foldl ins L ↔ j ∈ L ∨ j ∈ ks
  | [], L, j => by simp
  | k :: ks, L, j => by
    rw [List.foldl_cons, foldl_mem ks (ins L k) j, mem_ins, List.mem_cons]
    exact or_assoc
theorem foldl_len : ∀ (ks L : List Key), (ks.foldl ins L).length ≤ L.length + ks.length
  | [], _ => Nat.le_refl _
  | k :: ks, L => by
    have a := foldl_len ks (ins L k)
    have b := len_ins L k
    rw [List.foldl_cons, List.length_cons]
    omega
theorem nd_sof (ks : List Key) : (sof ks).Nodup := foldl_nd ks [] List.nodup_nil
theorem mem_sof {ks : List Key} {j : Key} : j ∈ sof ks ↔ j ∈ ks := by
  rw [show sof ks = ks.foldl ins [] from rfl, foldl_mem]
  simp
theorem len_sof (ks : List Key) : (sof ks).length ≤ ks.length := by
  have a := foldl_len ks []
  simpa [sof] using a
theorem led0 (w : World) : w.params.followText "set-order" = true ∨ (SetTable.fresh 0 0 (!w.params.followText "set-order")).led = true := by
  show _ ∨ (!w.params.followText "set-order") = true
  cases w.params.followText "set-order"
  · exact .inr rfl
  · exact .inl rfl
section
variable {prog : Program} {w : World} {A : Around} {E : Value → Shared → Prop} {s : Shared}
/-- a built-in class is called: its __new__, the check of its __init__, its __init__ -/
theorem type_run {T nid iid : String} {Bi : Builtin} {xs : List Value} {Q Q₁ : Value → Shared → Prop} (ft : TypeCalled T nid iid) (ok : checkTypeCall T ⟨xs, []⟩ = pure ()) (ent : entryFor table iid = some Bi)
    (new : codeAny (model prog w) A.in1 (.call (.builtin nid) ⟨.type T :: xs, []⟩) (wants Q₁ E) s)
    (next : ∀ x s₁, Q₁ x s₁ → s₁.TypeIs x T ∧ codeAny (model prog w) A.in1 (.call (.builtin iid) ⟨x :: xs, []⟩) (wants (fun r s₂ => r = .none ∧ Q x s₂) E) s₁) :
    wpAny (model prog w) A (call (.type T) xs) Q E s := by
  obtain ⟨c, tl, z0⟩ := ft.mro
  have z1 := ft.made
  have z2 := ft.sub
  refine wpAny_call (codeAny_of_tree ?_)
  show wpAny _ _ (callAny (.type T) _) _ _ _
  refine wpAny_pure ⟨Code.quiet_builtin _ (by decide +kernel), codeAny_builtin F.entry_type_call ?_⟩
  rw [Around.under_plain (weight_type_call_type T xs []) rfl]
  have z3 := ft.notType
  have z4 := ft.canCreate
  repeat (any_goals (first | assumption | wp_step))
  refine codeAny_mono new fun r s₁ hr => ?_
  cases r with
  | error e => exact hr
  | ok fl =>
    cases fl with
    | ret x =>
      obtain ⟨tx, cx⟩ := next _ _ hr
      have z5 := ft.init.lookup
      have z6 := ft.init.bind x
      repeat (any_goals (first | assumption | wp_step))
      refine codeAny_mono cx fun r₂ s₂ hr₂ => ?_
      cases r₂ with
      | error e => exact hr₂
      | ok fl₂ =>
        cases fl₂ with
        | ret r =>
          obtain ⟨rfl, q⟩ := hr₂
          repeat (any_goals (first | assumption | wp_step))
        | _ => exact hr₂.elim
    | _ => exact hr.elim
end
abbrev clean (w : World) : Obj := { cls := .type "set", dict := none, data := .set #[] 0 (.fresh 0 0 (!w.params.followText "set-order")) }
section
variable {P : Program} {w : World} {A : Around} {E : Value → Shared → Prop} {s : Shared}
theorem setM_clean {h : Heap} {a : Addr} (ha : h.get? a = some (clean w)) : SetM P w h a [] :=
  ⟨_, #[], 0, _, { at_ := ha, ex := ⟨rfl, rfl, rfl⟩, da := rfl, en := (fun e he => by simp at he), pm := .nil, nd := List.nodup_nil, sz := (by decide), ft := (by rfl), ri := List.Pairwise.nil, le := led0 w }⟩
theorem upd_loop {I : Addr} {fp wr : List Addr} {G : Array GenState → Array GenState → Prop} {n : Nat} {Pv : Nat → Value → Prop} {St : Nat → Shared → Prop} {R : Result → Shared → Prop}
    (W : WalksS P w A.in1 I fp wr G n Pv St) {a : Addr} (ha : a ∉ fp) {ks : List Key} (hn : n = ks.length) (few : ks.length + 1 < scanBound) (hv : ∀ i v, Pv i v → ∃ k, ks[i]? = some k ∧ RelV (kV k) v) :
    ∀ (m i : Nat) (s : Shared), n - i = m → i ≤ n → St i s → SetM P w s.heap a (sof (ks.take i)) →
      (∀ s', Moved (a :: wr) G s s' → SetM P w s'.heap a (sof ks) → R (.ok (.ret .none)) s') →
      codeAny (model P w) A (.builtin "set.update.loop" ⟨[.ref a, .ref I], []⟩) R s := by
  have haw : a ∉ wr := fun z => ha (W.sub _ z)
  have more : ∀ b ∈ wr, b ∈ a :: wr := fun b z => List.mem_cons_of_mem _ z
  intro m
  induction m with
  | zero =>
    intro i s hm hi st M hR
    obtain rfl : i = n := by omega
    refine codeAny_builtin F.entry_set_update_loop ?_
    rw [Around.under_plainId F.plain_set_update_loop _]
    show wpAny _ A.in1 (pyNext (.ref I) >>= _) _ _ s
    refine wpAny_bind (W.done s _ _ st fun s' mv => ?_)
    show wpAny _ A.in1 (ret Value.none) _ _ s'
    refine wpAny_pure (hR s' (mv.mono more) ?_)
    have M2 := M.to fun o e => mv.heap a o haw e
    rw [hn, List.take_length] at M2
    exact M2
  | succ m ih =>
    intro i s hm hi st M hR
    have lt : i < n := by omega
    refine codeAny_builtin F.entry_set_update_loop ?_
    rw [Around.under_plainId F.plain_set_update_loop _]
    show wpAny _ A.in1 (pyNext (.ref I) >>= _) _ _ s
    refine wpAny_bind (W.item i s _ _ lt st fun v s1 hP st1 mv => ?_)
    obtain ⟨k, hk, rv⟩ := hv i v hP
    have M1 := M.to fun o e => mv.heap a o haw e
    have few1 : (sof (ks.take i)).length + 1 < scanBound := by
      have z := len_sof (ks.take i)
      rw [List.length_take] at z
      omega
    show wpAny _ A.in1 (holding [v] (setAdd a v) >>= _) _ _ s1
    refine wpAny_bind (wpAny_holding ?_)
    unfold setAdd
    refine wpAny_holding (wpAny_bind ((mixKind P w).pyHash (kV_is rv) ?_))
    refine add_hashed (s := { s1 with toks := s1.toks + 1 }) rv M1 few1 fun g b sb M2 => ?_
    rw [← sof_take hk] at M2
    refine wpAny_pure ⟨plainId_quiet F.plain_set_update_loop _, ih (i + 1) _ (by omega) lt (W.frame _ s1 _ _ st1 (Nat.le_succ _) fun b hb o e => ?_) M2 fun s2 mv2 M3 => ?_⟩
    · rw [sb.2 b fun z : b = a => ha (z ▸ hb)]
      exact e
    · refine hR s2 (Moved.trans W.gtrans ((mv.mono more).then_heap (Nat.le_succ _) fun b o hb e => ?_) mv2) M3
      rw [sb.2 b fun z : b = a => hb (z ▸ List.mem_cons_self)]
      exact e
theorem vals_at {ks : List Key} {us : List Value} (r : Vals (ks.map kV) us) {i : Nat} {v : Value} (h : us[i]? = some v) : ∃ k, ks[i]? = some k ∧ RelV (kV k) v := by
  have lt : i < ks.length := by
    have e := r.length
    rw [List.length_map] at e
    rw [e]
    exact (List.getElem?_eq_some_iff.mp h).1
  obtain ⟨u, hu, ru⟩ := r.get (i := i) (x := kV ks[i]) (by simp [lt])
  rw [h] at hu
  cases hu
  exact ⟨ks[i], List.getElem?_eq_getElem lt, ru⟩
theorem call_set {l : Addr} {us : List Value} {ks : List Key} {Q : Value → Shared → Prop} (hh : A.handled = none) (hl : s.heap.IsList l us.toArray ∨ s.heap.IsTuple l us.toArray) (rv : Vals (ks.map kV) us) (few : ks.length + 1 < scanBound)
    (q : ∀ (g : Heap) (tk : Nat), SetM P w g s.heap.objs.size (sof ks) → (∀ b o, s.heap.get? b = some o → g.get? b = some o) → Q (.ref s.heap.objs.size) { s with heap := g, toks := tk }) :
    wpAny (model P w) A (call (.type "set") [.ref l]) Q E s := by
  refine type_run (Q₁ := fun x s₁ => x = .ref s.heap.objs.size ∧ s₁ = { s with heap := s.heap.push (clean w) }) F.called_set (F.typeCall_set_1 _) F.entry_set_init (code_set_led1 (.ref l) ⟨rfl, rfl⟩) fun x s₁ hx => ?_
  obtain ⟨rfl, rfl⟩ := hx
  have aS : (s.heap.push (clean w)).get? s.heap.objs.size = some (clean w) := Heap.get?_push_size _ rfl
  have tS : Shared.TypeIs { s with heap := s.heap.push (clean w) } (.ref s.heap.objs.size) "set" := ⟨_, aS, rfl⟩
  refine ⟨tS, codeAny_call_builtin F.called_set.init.plain F.entry_set_init (check_set_init_1 tS ?_)⟩
  have lS : l < s.heap.objs.size := by
    rcases hl with ⟨o, e, _⟩ | ⟨o, e, _⟩ <;> exact Heap.lt_size e
  have hh3 : A.in1.in1.in1.handled = none := by simp [hh]
  have nI : l ≠ (s.heap.push (clean w)).objs.size := by
    rw [Heap.size_push]
    exact Nat.ne_of_lt (Nat.lt_succ_of_lt lS)
  have nS : s.heap.objs.size ∉ [(s.heap.push (clean w)).objs.size, l] := by
    rw [Heap.size_push]
    simp only [List.mem_cons, List.not_mem_nil, or_false, not_or]
    exact ⟨Nat.ne_of_lt (Nat.lt_succ_self _), Nat.ne_of_gt lS⟩
  have hv : ∀ (i : Nat) (v : Value), us.toArray[i]? = some v → ∃ k, ks[i]? = some k ∧ RelV (kV k) v := fun i v e => vals_at rv (by rw [List.getElem?_toArray] at e; exact e)
  have hn : us.toArray.size = ks.length := by rw [List.size_toArray, ← rv.length, List.length_map]
  rcases hl with hl | hl
  · obtain ⟨⟨ocls, odict, odata, oslots⟩, hol, hcl, nl, hdl⟩ := hl
    simp only at hcl hdl
    subst hcl hdl
    have hol1 : (s.heap.push (clean w)).get? l = some { cls := .type "list", dict := odict, data := .seq us.toArray nl, slots := oslots } := Heap.get?_push_of_some _ hol
    have y1 := F.sub_list_set
    have y2 := F.sub_list_frozenset
    have y3 : (Value.type "list" == Value.type "dict") = false := by decide
    have hl1 : (s.heap.push (clean w)).IsList l us.toArray := ⟨_, hol1, rfl, nl, rfl⟩
    unfold Builtin.«set.__init__» noKeywords Builtin.Frozenset.updateFrom
    generalize hPI : pyIter = PI
    wp_walk
    subst hPI

    refine wpAny_pyIter_list hl1 (wpAny_bind (wpAny_runValue ?_))
    refine upd_loop ((Walks.list hh3 _ l nI us.toArray).toS) nS hn few hv (us.toArray.size - 0) 0 _ (by omega) (Nat.zero_le _) ⟨⟨_, Heap.get?_push_size _ rfl, rfl, rfl⟩, hl1.push _⟩ (setM_clean (Heap.get?_push_of_some _ aS)) fun s' mv M => ?_
    obtain ⟨h', g', d', tk', os'⟩ := s'
    obtain rfl : g' = s.gens := mv.gens
    obtain rfl : d' = s.drawn := mv.drawn
    obtain rfl : os' = s.os := mv.os
    show wpAny _ _ _ _ _ _
    refine wpAny_pure ?_
    show wpAny _ _ (ret Value.none) _ _ _
    refine wpAny_pure ⟨rfl, q h' tk' M fun b o e => ?_⟩
    have lt := Heap.lt_size e
    refine mv.heap b o ?_ (Heap.get?_push_of_some _ (Heap.get?_push_of_some _ e))
    simp only [List.mem_cons, List.not_mem_nil, or_false, not_or]
    exact ⟨Nat.ne_of_lt lt, by rw [Heap.size_push]; exact Nat.ne_of_lt (Nat.lt_succ_of_lt lt)⟩
  · obtain ⟨⟨ocls, odict, odata, oslots⟩, hol, hcl, nl, hdl⟩ := hl
    simp only at hcl hdl
    subst hcl hdl
    have hol1 : (s.heap.push (clean w)).get? l = some { cls := .type "tuple", dict := odict, data := .seq us.toArray nl, slots := oslots } := Heap.get?_push_of_some _ hol
    have y1 := F.sub_tuple_set
    have y2 := F.sub_tuple_frozenset
    have y3 : (Value.type "tuple" == Value.type "dict") = false := by decide
    have hl1 : (s.heap.push (clean w)).IsTuple l us.toArray := ⟨_, hol1, rfl, nl, rfl⟩
    unfold Builtin.«set.__init__» noKeywords Builtin.Frozenset.updateFrom
    generalize hPI : pyIter = PI
    wp_walk
    subst hPI

    refine wpAny_pyIter_tuple hl1 (wpAny_bind (wpAny_runValue ?_))
    refine upd_loop ((Walks.tuple hh3 _ l nI us.toArray).toS) nS hn few hv (us.toArray.size - 0) 0 _ (by omega) (Nat.zero_le _) ⟨⟨_, Heap.get?_push_size _ rfl, rfl, rfl⟩, hl1.push _⟩ (setM_clean (Heap.get?_push_of_some _ aS)) fun s' mv M => ?_
    obtain ⟨h', g', d', tk', os'⟩ := s'
    obtain rfl : g' = s.gens := mv.gens
    obtain rfl : d' = s.drawn := mv.drawn
    obtain rfl : os' = s.os := mv.os
    show wpAny _ _ _ _ _ _
    refine wpAny_pure ?_
    show wpAny _ _ (ret Value.none) _ _ _
    refine wpAny_pure ⟨rfl, q h' tk' M fun b o e => ?_⟩
    have lt := Heap.lt_size e
    refine mv.heap b o ?_ (Heap.get?_push_of_some _ (Heap.get?_push_of_some _ e))
    simp only [List.mem_cons, List.not_mem_nil, or_false, not_or]
    exact ⟨Nat.ne_of_lt lt, by rw [Heap.size_push]; exact Nat.ne_of_lt (Nat.lt_succ_of_lt lt)⟩
end
end PSS

set_option Elab.async false
set_option linter.all false
set_option maxRecDepth 100000
set_option maxHeartbeats 8000000
/-! sets of keys as tracked things: set(xs), len, in, sorted -/
namespace PSG
open PySem PySem.Spec L2 PSS
open PyProof.Rows (IntsAre AllBare StrsAre)
def SetMO (P : Program) (w : World) (a : Addr) (L : List Key) : HO := .ext fun h => SetM P w h a L
theorem setMO_new {P : Program} {w : World} {H : Hp} {h : Heap} {a : Addr} {L : List Key} (M : SetM P w h a L) : ObjOk P w H h a (SetMO P w a L) := by
  have ⟨o, es, ep, t, J⟩ := M
  exact ⟨M, ⟨o, J.at_⟩, fun h1 h2 p k => p.to k⟩
section
variable {X : Cx}
theorem setMO_get {pins : List (Addr × Obj)} {σ : L2.St} {H : Hp} {s : Shared} {a : Addr} {L : List Key} (I : Inv X pins σ H s) (ha : H a = some (SetMO X.prog X.w a L)) : SetM X.prog X.w s.heap a L := (I.hok a _ ha).1
/-- set(xs) -/
def rSetOf (K : PySem.W.Frag) (P : Program) (w : World) : List V → Hp → VK → Prop := fun xs H Q => ∃ (l : Addr) (ks : List Key), xs = [.ref l] ∧ (SqL K H l (ks.map kV) ∨ SqT K H l (ks.map kV)) ∧ ks.length ≤ 1000 ∧
  ∀ a, H a = none → Q (.ref a) (upd H a (SetMO P w a (sof ks)))
theorem cr_setOf (hc : X.calm = true) : CallR X (.type "set") (rSetOf X.K X.prog X.w) := by
  intro pins s σ H xs us Q I r h
  obtain ⟨l, ks, rfl, hl, few, q⟩ := h
  rw [Vals.ref1 r]
  have hn : H s.heap.objs.size = none := I.hok.fresh (Nat.le_refl _)
  have fin : ∀ (its : List Value), Vals (ks.map kV) its → (s.heap.IsList l its.toArray ∨ s.heap.IsTuple l its.toArray) → wpAny (model X.prog X.w) X.A (call (.type "set") [.ref l]) (EP X pins σ Q) X.xe s := fun its rv hs =>
    call_set (P := X.prog) (w := X.w) (I.ok.hd hc) hs rv (by unfold scanBound; omega) fun g tk M k => ⟨.ref s.heap.objs.size, _, I.laid (t' := tk) k (Nat.le_refl _) (setMO_new M), rfl, q _ hn⟩
  rcases hl with hl | hl
  · obtain ⟨its, rv, pl, hz⟩ := I.list hl
    exact fin its rv (.inl pl.isList)
  · obtain ⟨its, rv, pl, hz⟩ := I.tuple hl
    exact fin its rv (.inr pl)
/-- len(a set) -/
def rLenM (P : Program) (w : World) : List V → Hp → VK → Prop := fun xs H Q => ∃ (a : Addr) (L : List Key), xs = [.ref a] ∧ H a = some (SetMO P w a L) ∧ Q (.int L.length) H
theorem cr_lenM : CallR X (.builtin "len") (rLenM X.prog X.w) := by
  intro pins s σ H xs us Q I r h
  obtain ⟨a, L, rfl, ha, q⟩ := h
  rw [Vals.ref1 r]
  obtain ⟨o, es, ep, t, J⟩ := setMO_get I ha
  have few : L.length < scanBound := J.sz
  refine call_len_set J.at_ J.ex J.da J.ft (by rw [J.len]; unfold scanBound at few; omega) ⟨.int L.length, H, I.tok _, ⟨_, by rw [J.len]⟩, q⟩
/-- k in a set -/
def rInM (P : Program) (w : World) (neg : Bool) : V → V → Hp → VK → Prop := fun x y H Q => ∃ (k : Key) (a : Addr) (L : List Key), x = kV k ∧ y = .ref a ∧ H a = some (SetMO P w a L) ∧ Q (.bl (if neg then !decide (k ∈ L) else decide (k ∈ L))) H
theorem op_inM : OpR X (compareOp .In) (rInM X.prog X.w false) := by
  intro pins s σ H x y v u Q I rx ry h
  obtain ⟨k, a, L, rfl, rfl, ha, q⟩ := h
  cases ry
  exact wpAny_inSet_of (kV_is rx) (key_scan rx) (setMO_get I ha).setOf ⟨.bl (decide (k ∈ L)), H, I.tok _, rfl, q⟩
theorem op_notInM : OpR X (compareOp .NotIn) (rInM X.prog X.w true) := by
  intro pins s σ H x y v u Q I rx ry h
  obtain ⟨k, a, L, rfl, rfl, ha, q⟩ := h
  cases ry
  exact wpAny_notInSet_of (kV_is rx) (key_scan rx) (setMO_get I ha).setOf ⟨.bl (!decide (k ∈ L)), H, I.tok _, rfl, q⟩
/-! sorted -/
theorem len_of_key {P : Program} {w : World} {h : Heap} {a : Addr} {L : List Key} {o : Obj} {es : Array (Int × Value)} {ep : Nat} {t : SetTable} {vs : List Value} (J : Is P w h a L o es ep t) (pm : vs.Perm (es.toList.map (·.2))) : vs.length = L.length := by
  rw [pm.length_eq, List.length_map, Array.length_toList, J.len]
theorem keys_perm {P : Program} {w : World} {h : Heap} {a : Addr} {L : List Key} {o : Obj} {es : Array (Int × Value)} {ep : Nat} {t : SetTable} {vs : List Value} (J : Is P w h a L o es ep t) (pm : vs.Perm (es.toList.map (·.2))) : (vs.map kOf).Perm L := by
  have z := pm.map kOf
  rw [List.map_map] at z
  exact z.trans J.pm
theorem keys_rel {P : Program} {w : World} {h : Heap} {a : Addr} {L : List Key} {o : Obj} {es : Array (Int × Value)} {ep : Nat} {t : SetTable} {vs : List Value} (J : Is P w h a L o es ep t) (pm : vs.Perm (es.toList.map (·.2))) : ∀ v ∈ vs, RelV (kV (kOf v)) v := by
  intro v hv
  obtain ⟨e, he, q⟩ := List.mem_map.mp (pm.mem_iff.mp hv)
  obtain ⟨k, r, _⟩ := J.en e he
  rw [← q, kOf_rel r]
  exact r
def isIK : Key → Prop := fun k => ∃ i, k = .inl i
def isSK : Key → Prop := fun k => ∃ x, k = .inr x
def gI : Value → Int := fun v => match kOf v with | .inl i => i | .inr _ => 0
def gS : Value → Str := fun v => match kOf v with | .inr x => x | .inl _ => Str.empty
theorem ints_of_keys : ∀ {vs : List Value}, (∀ v ∈ vs, RelV (kV (kOf v)) v ∧ isIK (kOf v)) → IntsAre vs (vs.map gI) ∧ vs.map kOf = (vs.map gI).map Sum.inl
  | [], _ => ⟨.nil, rfl⟩
  | v :: vs, h => by
    obtain ⟨h1, h2⟩ := ints_of_keys (vs := vs) fun u m => h u (List.mem_cons_of_mem _ m)
    obtain ⟨r, i, e⟩ := h v List.mem_cons_self
    rw [e] at r
    obtain ⟨t, rfl⟩ := r
    have g : gI (Value.int i t) = i := rfl
    refine ⟨?_, ?_⟩
    · rw [List.map_cons, g]
      exact .cons i t h1
    · rw [List.map_cons, List.map_cons, List.map_cons, h2, g]
      rfl
theorem strs_of_keys : ∀ {vs : List Value}, (∀ v ∈ vs, RelV (kV (kOf v)) v ∧ isSK (kOf v)) → StrsAre vs (vs.map gS) ∧ vs.map kOf = (vs.map gS).map Sum.inr
  | [], _ => ⟨.nil, rfl⟩
  | v :: vs, h => by
    obtain ⟨h1, h2⟩ := strs_of_keys (vs := vs) fun u m => h u (List.mem_cons_of_mem _ m)
    obtain ⟨r, x, e⟩ := h v List.mem_cons_self
    rw [e] at r
    obtain ⟨t, rfl⟩ := r
    have g : gS (Value.str x t) = x := rfl
    refine ⟨?_, ?_⟩
    · rw [List.map_cons, g]
      exact .cons x t h1
    · rw [List.map_cons, List.map_cons, List.map_cons, h2, g]
      rfl
theorem nodup_of_map {α β : Type} {f : α → β} {l : List α} (h : (l.map f).Nodup) : l.Nodup := List.Pairwise.of_map f (fun _ _ hne e => hne (congrArg f e)) h
theorem mem_map_inl {ns : List Int} {i : Int} : (Sum.inl i : Key) ∈ ns.map (Sum.inl : Int → Key) ↔ i ∈ ns := by
  rw [List.mem_map]
  exact ⟨fun ⟨j, m, e⟩ => by cases e; exact m, fun m => ⟨i, m, rfl⟩⟩
theorem mem_map_inr {ns : List Str} {i : Str} : (Sum.inr i : Key) ∈ ns.map (Sum.inr : Str → Key) ↔ i ∈ ns := by
  rw [List.mem_map]
  exact ⟨fun ⟨j, m, e⟩ => by cases e; exact m, fun m => ⟨i, m, rfl⟩⟩
/-- sorted(a set of whole numbers) -/
def rSortM (P : Program) (w : World) : List V → Hp → VK → Prop := fun vs H Q => ∃ (a : Addr) (L : List Key), vs = [.ref a] ∧ H a = some (SetMO P w a L) ∧ L.length < 64 ∧ (∀ k ∈ L, isIK k) ∧
  ∀ (ns : List Int) (p : Addr), ns.Pairwise (· < ·) → (∀ i : Int, i ∈ ns ↔ (Sum.inl i : Key) ∈ L) → ns.length = L.length → H p = none → Q (.ref p) (upd H p (.lst (ns.map V.int)))
theorem cr_sortM (hc : X.calm = true) : CallR X (.builtin "sorted") (rSortM X.prog X.w) := by
  intro pins s σ H xs us Q I r h
  obtain ⟨a, L, rfl, ha, few, ik, q⟩ := h
  rw [Vals.ref1 r]
  obtain ⟨o, es, ep, t, J⟩ := setMO_get I ha
  refine Calls.call_function_entry PyProof.Rows.kind_sorted PyProof.Rows.plain_sorted PyProof.Rows.entry_sorted (PyProof.Rows.args_sorted1 _) ?_
  unfold Builtin.«sorted»
  refine wpAny_bind (m := checkCount "sorted" 1 1 _) (wpAny_pure ?_)
  refine wpAny_bind (collect_set (A := X.A.in1) (I.ok.hd hc) ⟨o, J.at_, J.ex.1, J.da⟩ J.ft (by rw [J.len]; exact J.sz) J.ri J.le fun s1 vs k1 z1 g1 o1 pm => ?_)
  have vl := len_of_key J pm
  have kp := keys_perm J pm
  have kr := keys_rel J pm
  obtain ⟨ia, im⟩ := ints_of_keys fun v m => ⟨kr v m, ik _ (kp.mem_iff.mp (List.mem_map_of_mem m))⟩
  obtain ⟨g, b, d, tk, os⟩ := s1
  dsimp only at k1 z1 g1 o1 ⊢
  subst g1 o1
  have I1 : Inv X pins σ H { s with heap := g, drawn := d, toks := tk } := I.call (ch := []) (Un.kept k1) (I.hok.kept k1) I.bare (fun _ z => nomatch z)
  refine wpAny_bind (wpAny_newList ?_ (by rw [vl, sizeLine_eq]; omega))
  have aL : (g.push (PyProof.Rows.seqObj "list" vs.toArray 0)).get? g.objs.size = some (PyProof.Rows.seqObj "list" vs.toArray 0) := Heap.get?_push_size _ rfl
  refine wpAny_bind (wpAny_holding (wpAny_call_entry PyProof.Rows.slot_list_sort ⟨_, aL, rfl⟩ PyProof.Rows.entry_list_sort (PyProof.Rows.list_sort_tree aL ia (by rw [vl]; exact few) fun out ns a1 a2 a3 => ⟨_, rfl, ?_⟩) (PyProof.Rows.args_list_sort _)))
  obtain ⟨c, hcc⟩ := PyProof.Rows.sortedHeap_at (vs := vs) (out := out) aL
  have np : (ns.map (Sum.inl : Int → Key)).Perm L := (a2.map _).trans (im ▸ kp)
  have nl : ns.length = L.length := by
    have e := np.length_eq
    rw [List.length_map] at e
    exact e
  refine wpAny_pure ⟨_, rfl, .ref g.objs.size, upd H g.objs.size (.lst (ns.map V.int)), I1.laid (t' := tk) (fun b u e => ?_) (Nat.le_refl _)
    (show ObjOk X.prog X.w _ _ _ (.lst (ns.map V.int)) from ⟨by rw [List.length_map, nl, sizeLine_eq]; omega, out.toList, c, vals_of_ints a1, by rw [Array.toArray_toList]; exact hcc⟩), rfl,
    q ns _ (lt_of_le_nodup ns a3 (nodup_of_map (np.nodup_iff.mpr J.nd))) (fun i => by rw [← np.mem_iff, mem_map_inl]) nl (I1.hok.fresh (Nat.le_refl _))⟩
  have lt := Heap.lt_size e
  rw [PyProof.Rows.sortedHeap_old (Nat.ne_of_lt lt) (by rw [PyProof.Rows.size_push']; exact Nat.lt_succ_of_lt lt)]
  exact Heap.get?_push_of_some _ e
/-- sorted(a set of texts) -/
def rSortMS (P : Program) (w : World) : List V → Hp → VK → Prop := fun vs H Q => ∃ (a : Addr) (L : List Key), vs = [.ref a] ∧ H a = some (SetMO P w a L) ∧ L.length < 64 ∧ (∀ k ∈ L, isSK k) ∧
  ∀ (ys : List Str) (p : Addr), PyProof.Rows.sortedS ys = true → ys.Nodup → (∀ i : Str, i ∈ ys ↔ (Sum.inr i : Key) ∈ L) → ys.length = L.length → H p = none → Q (.ref p) (upd H p (.lst (ys.map V.str)))
theorem cr_sortMS (hc : X.calm = true) : CallR X (.builtin "sorted") (rSortMS X.prog X.w) := by
  intro pins s σ H xs us Q I r h
  obtain ⟨a, L, rfl, ha, few, ik, q⟩ := h
  rw [Vals.ref1 r]
  obtain ⟨o, es, ep, t, J⟩ := setMO_get I ha
  refine Calls.call_function_entry PyProof.Rows.kind_sorted PyProof.Rows.plain_sorted PyProof.Rows.entry_sorted (PyProof.Rows.args_sorted1 _) ?_
  unfold Builtin.«sorted»
  refine wpAny_bind (m := checkCount "sorted" 1 1 _) (wpAny_pure ?_)
  refine wpAny_bind (collect_set (A := X.A.in1) (I.ok.hd hc) ⟨o, J.at_, J.ex.1, J.da⟩ J.ft (by rw [J.len]; exact J.sz) J.ri J.le fun s1 vs k1 z1 g1 o1 pm => ?_)
  have vl := len_of_key J pm
  have kp := keys_perm J pm
  have kr := keys_rel J pm
  obtain ⟨ia, im⟩ := strs_of_keys fun v m => ⟨kr v m, ik _ (kp.mem_iff.mp (List.mem_map_of_mem m))⟩
  obtain ⟨g, b, d, tk, os⟩ := s1
  dsimp only at k1 z1 g1 o1 ⊢
  subst g1 o1
  have I1 : Inv X pins σ H { s with heap := g, drawn := d, toks := tk } := I.call (ch := []) (Un.kept k1) (I.hok.kept k1) I.bare (fun _ z => nomatch z)
  refine wpAny_bind (wpAny_newList ?_ (by rw [vl, sizeLine_eq]; omega))
  have aL : (g.push (PyProof.Rows.seqObj "list" vs.toArray 0)).get? g.objs.size = some (PyProof.Rows.seqObj "list" vs.toArray 0) := Heap.get?_push_size _ rfl
  refine wpAny_bind (wpAny_holding (wpAny_call_entry PyProof.Rows.slot_list_sort ⟨_, aL, rfl⟩ PyProof.Rows.entry_list_sort
    (PyProof.Rows.list_sort_treeK PyProof.Rows.strKind_oneLt (s := { s with heap := g.push (PyProof.Rows.seqObj "list" vs.toArray 0), drawn := d, toks := tk }) aL ia.keysOf (fun v₁ v₂ rest e => PyProof.Rows.keyKind_strs (by rw [← e]; exact ia)) (by rw [vl]; exact few) fun st hp hs => ⟨_, rfl, ?_⟩) (PyProof.Rows.args_list_sort _)))
  obtain ⟨ys, a1, a2, a3⟩ := PyProof.Rows.sorted_out_str ia hp hs
  obtain ⟨c, hcc⟩ := PyProof.Rows.sortedHeap_at (vs := vs) (out := (PyProof.Rows.arrOf st).map (·.2)) aL
  have np : (ys.map (Sum.inr : Str → Key)).Perm L := (a2.map _).trans (im ▸ kp)
  have nl : ys.length = L.length := by
    have e := np.length_eq
    rw [List.length_map] at e
    exact e
  refine wpAny_pure ⟨_, rfl, .ref g.objs.size, upd H g.objs.size (.lst (ys.map V.str)), I1.laid (t' := tk) (fun b u e => ?_) (Nat.le_refl _)
    (show ObjOk X.prog X.w _ _ _ (.lst (ys.map V.str)) from ⟨by rw [List.length_map, nl, sizeLine_eq]; omega, ((PyProof.Rows.arrOf st).map (·.2)).toList, c, vals_of_strs a1, by rw [Array.toArray_toList]; exact hcc⟩), rfl,
    q ys _ a3 (nodup_of_map (np.nodup_iff.mpr J.nd)) (fun i => by rw [← np.mem_iff, mem_map_inr]) nl (I1.hok.fresh (Nat.le_refl _))⟩
  have lt := Heap.lt_size e
  rw [PyProof.Rows.sortedHeap_old (Nat.ne_of_lt lt) (by rw [PyProof.Rows.size_push']; exact Nat.lt_succ_of_lt lt)]
  exact Heap.get?_push_of_some _ e
end
end PSG

set_option Elab.async false
set_option linter.all false
set_option maxRecDepth 100000
set_option maxHeartbeats 8000000
/-! {e for x in xs}, e a number or a text -/
namespace PSS
open PySem PySem.Spec PyProof.Rows L2
theorem set_add {P : Program} {w : World} {A : Around} {E : Value → Shared → Prop} {s : Shared} {a : Addr} {L : List Key} {k : Key} {x : Value} (rx : RelV (kV k) x) {Q : Value → Shared → Prop} (M : SetM P w s.heap a L) (room : L.length + 1 < scanBound)
    (q : ∀ g, Heap.SameBut a s.heap g → SetM P w g a (ins L k) → Q .none { s with heap := g, toks := s.toks + 1 }) : wpAny (model P w) A (call (.builtin "set.add") [.ref a, x]) Q E s := by
  refine wpAny_call_entry F.slot_set_add M.setOf.typeIs F.entry_set_add ?_ (F.args_set_add_2 _ _)
  unfold Builtin.«set.add» Builtin.Frozenset.oneOther
  simp only [List.isEmpty_nil, bind_assoc]
  unfold Builtin.Frozenset.addrOf setAdd
  refine wpAny_bind (wpAny_pure ?_)
  try dsimp only
  refine wpAny_bind (wpAny_pure ?_)
  try dsimp only
  refine wpAny_bind (wpAny_holding (wpAny_bind ((mixKind P w).pyHash (kV_is rx) ?_)))
  refine add_hashed (s := { s with toks := s.toks + 1 }) rx M room fun g b sb M2 => ?_
  show wpAny _ _ (ret Value.none) _ _ _
  exact wpAny_pure ⟨_, rfl, q g sb M2⟩
end PSS
namespace PSG
open PySem PySem.Spec L2 PSS
section
variable {X : Cx}
theorem add_in {pins : List (Addr × Obj)} {σ : L2.St} {H : Hp} {s : Shared} {E : Value → Shared → Prop} {D : Addr} {L : List Key} {k : Key} {x : Value} {Q : Value → Shared → Prop} (I : Inv X pins σ H s) (rx : RelV (kV k) x) (hD : H D = some (SetMO X.prog X.w D L)) (room : L.length + 1 < scanBound)
    (h : ∀ s', Inv X pins σ (upd H D (SetMO X.prog X.w D (ins L k))) s' → Q .none s') : wpAny (model X.prog X.w) X.A (call (.builtin "set.add") [.ref D, x]) Q E s := by
  refine set_add rx (setMO_get I hD) room fun g sb M => ?_
  have there : ∃ u, g.get? D = some u := by
    have ⟨o, es, ep, t, J⟩ := M
    exact ⟨o, J.at_⟩
  exact h _ (I.write (e := D) (t' := s.toks + 1) (by rw [hD]; trivial) (.inl rfl) (fun b u n e => (sb.2 b n).trans e) there (setMO_new M))
/-- what a turn of the comprehension makes: the key goes into the set at D -/
abbrev PutM (P : Program) (w : World) (D : Addr) (Nx : Hp → Prop) : VK := fun y H => ∃ (k : Key) (L : List Key), y = kV k ∧ H D = some (SetMO P w D L) ∧ L.length + 1 < scanBound ∧ Nx (upd H D (SetMO P w D (ins L k)))
def tScM (P : Program) (w : World) (wi : TI) (g : TG) (tt : TT) (te : TE) (vs : List Nat) : TE := fun σ H Q => wi σ H fun J H1 => ∀ D, H1 D = none → ∃ W : Nat → Nat → Hp → Prop, (∃ m, W 0 m (upd H1 D (SetMO P w D []))) ∧ ∀ i m H, W i m H →
  (J.stop i H ∧ Q (.ref D) H) ∨ (J.go i H ∧ ∃ Nx : Hp → Prop, (∀ H', Nx H' → ∃ m', m' < m ∧ W (i + 1) m' H') ∧ ∀ x H', J.yld i H x H' → g x (wipe σ vs) H' fun σ2 H2 => wipe σ2 vs = wipe σ vs ∧ tt σ2 H2 fun b H3 =>
    if b = true then te σ2 H3 (PutM P w D Nx) else Nx H3)
theorem scM_core {pins : List (Addr × Obj)} {s : Shared} {σ : L2.St} {H : Hp} {Q : VK} {elt tg iter : Expr} {ifs : List Expr} {scope : Scope} {own : List (PySem.Str × Nat)} {pos pos' : Pos} {wi : TI} {g : TG} {tt : TT} {te : TE} {use : Option (Value → Sem Unit)} {Qf : Value → Shared → Prop}
    (hc : X.calm = true) (hN : X.N.Nodup) (I : Inv X pins σ H s) (hi : PI X tg iter wi) (ok : BlkOk X.N X.env.scope scope own)
    (hg : ∀ (s : Shared) (H : Hp) (C : Addr) (cl : List (PySem.Str × Addr)) (fp : List Addr), PG (X.blk s H scope (compEnvC scope cl C X.env) fp) tg g) (ht : ∀ (s : Shared) (H : Hp) (C : Addr) (cl : List (PySem.Str × Addr)) (fp : List Addr), PTs (X.blk s H scope (compEnvC scope cl C X.env) fp) ifs tt)
    (he : ∀ (s : Shared) (H : Hp) (C : Addr) (cl : List (PySem.Str × Addr)) (fp : List Addr), PE (X.blk s H scope (compEnvC scope cl C X.env) fp) elt te) (hs : ∀ x, foldedSetIterable iter X.env x = pure x)
    (h : tScM X.prog X.w wi g tt te (own.map (·.2)) σ H Q)
    (back : ∀ D C s' m H', Inv X pins σ H' s' → Q (.ref D) H' → s'.heap.Ns C m → FpOk X pins H' C → compPost (model X.prog X.w) X.A X.xe use Qf (.ref D) C (.ok .next) s') :
    wpAny (model X.prog X.w) X.A (comprehension (.SetComp elt [⟨tg, iter, ifs, 0⟩] scope pos) scope X.env pos' (newSet (.type "set")) false (eval iter X.env) use) Qf X.xe s := by
  have cellsOk : ∀ y ∈ scope.names, y.2 = .free → ∃ c, X.env.cells.lookup y.1 = some c := fun y hy e => (ok.free y hy e).elim (fun k => I.ok.has _ (.inl k)) fun k => I.ok.has _ (.inr k)
  refine wpAny_comprehension_free (use := use) rfl hs (closure_ok cellsOk) ok.kind (fun y hy e => by rw [ok.uniq y hy, e]) (thn (hi.run pins s σ H _ I h) fun xv s1 hx => thn hx fun itv s2 h2 => ?_)
  obtain ⟨it, fp, tn, J, H2, e, I2, T, st2, f2, q⟩ := h2
  subst e
  refine PpSet.newSet_ok (newEnv_comp ?_)
  generalize hD : s2.heap.objs.size = D
  obtain ⟨W, ⟨m0, w0⟩, turn⟩ := q D (I2.hok.fresh (Nat.le_of_eq hD))
  generalize hs3 : ({ s2 with heap := s2.heap.push (clean X.w) } : Shared) = s3
  have h3 : s3.heap = s2.heap.push (clean X.w) := by rw [← hs3]
  have I3 : Inv X pins σ (upd H2 D (SetMO X.prog X.w D [])) s3 := by
    rw [← hs3]
    refine I2.laid (t' := s2.toks) (fun b o e => Heap.get?_push_of_some _ e) (Nat.le_of_eq hD) ?_
    rw [← hD]
    exact setMO_new (setM_clean (Heap.get?_push_size _ rfl))
  have f3 : ∀ b ∈ fp, FpOk X pins (upd H2 D (SetMO X.prog X.w D [])) b ∧ b < s3.heap.objs.size := fun b hb => by
    obtain ⟨o, e, _⟩ := T.obj _ _ st2 b hb
    have lt := Heap.lt_size e
    refine ⟨⟨?_, (f2 b hb).2⟩, by rw [h3, Heap.size_push]; exact Nat.lt_succ_of_lt lt⟩
    rw [upd_ne (by rw [← hD]; exact Nat.ne_of_lt lt)]
    exact (f2 b hb).1
  have st3 : tn 0 s3.heap := T.keep _ _ _ st2 fun b _ o e => by rw [h3]; exact Heap.get?_push_of_some _ e
  have I4 := block_start I3 ok hN f3
  have pg := hg s3 (upd H2 D (SetMO X.prog X.w D [])) s3.heap.objs.size (cellsFrom (s3.heap.objs.size + 1) scope.names (cloFrom X.env.cells scope.names [])) fp
  have pt := ht s3 (upd H2 D (SetMO X.prog X.w D [])) s3.heap.objs.size (cellsFrom (s3.heap.objs.size + 1) scope.names (cloFrom X.env.cells scope.names [])) fp
  have pe := he s3 (upd H2 D (SetMO X.prog X.w D [])) s3.heap.objs.size (cellsFrom (s3.heap.objs.size + 1) scope.names (cloFrom X.env.cells scope.names [])) fp
  show codeAny _ _ (.compStart (.SetComp elt [⟨tg, iter, ifs, 0⟩] scope pos) 0 (.ref it) (.ref D) (compEnvC scope (cellsFrom (s3.heap.objs.size + 1) scope.names (cloFrom X.env.cells scope.names [])) s3.heap.objs.size X.env)) (compPost (model X.prog X.w) X.A X.xe use Qf (.ref D) s3.heap.objs.size) { s3 with heap := pushCells (s3.heap.push { cls := .type "dict", data := .dict #[] }) scope.names }
  have none3 : ∀ b ∈ fp, (upd H2 D (SetMO X.prog X.w D [])) b = none := fun b hb => (f3 b hb).1.1
  generalize hce : compEnvC scope (cellsFrom (s3.heap.objs.size + 1) scope.names (cloFrom X.env.cells scope.names [])) s3.heap.objs.size X.env = ce at I4 pg pt pe ⊢
  have cL : ce.locals = s3.heap.objs.size := by subst hce; rfl
  generalize hH3 : upd H2 D (SetMO X.prog X.w D []) = H3 at I3 I4 pg pt pe w0 none3 f3
  generalize hs4 : ({ s3 with heap := pushCells (s3.heap.push { cls := .type "dict", data := .dict #[] }) scope.names } : Shared) = s4 at I4 ⊢
  have st4 : tn 0 s4.heap := T.keep _ _ _ st3 fun b _ o e => by rw [← hs4]; exact pushCells_keeps _ _ _ _ (Heap.get?_push_of_some _ e)
  have foot : ∀ {σ' : L2.St} {H' : Hp} {s' : Shared}, Inv (X.blk s3 H3 scope ce fp) [] σ' H' s' → (∀ b ∈ fp, H' b = none) → ∀ b ∈ fp, FpOk (X.blk s3 H3 scope ce fp) [] H' b := fun {σ' H' s'} I' hn b hb =>
    ⟨hn b hb, (I'.ok.exf b hb).1, I'.ok.exfs b hb, .inl hb, fun x c e => (I'.ok.exf b hb).2 x c e, fun p hp => absurd (show p ∈ ([] : List (Addr × Obj)) ++ [] from hp) (by simp)⟩
  have loop : codeAny (model X.prog X.w) X.A (.compLoop (.SetComp elt [⟨tg, iter, ifs, 0⟩] scope pos) 0 (.ref it) (.ref D) ce) (compPost (model X.prog X.w) X.A X.xe use Qf (.ref D) s3.heap.objs.size) s4 := by
    refine PpSet.compLoopS_any (fun n s' => ∃ i H', Inv (X.blk s3 H3 scope ce fp) [] (wipe σ (own.map (·.2))) H' s' ∧ tn i s'.heap ∧ (∀ b ∈ fp, H' b = none) ∧ W i n H') ?_ m0 ⟨0, H3, I4, st4, none3, w0⟩
    rintro n s5 ⟨i, H5, I5, st5, n5, w5⟩
    rcases turn i n H5 w5 with ⟨stop, qq⟩ | ⟨go, Nx, hNx, step⟩
    · refine thnF (T.done (X.blk s3 H3 scope ce fp) rfl rfl rfl hc i [] s5 _ H5 (fun _ _ => False) I5 (foot I5 n5) st5 stop) fun r s6 ⟨hr, I6⟩ => ?_
      subst hr
      have I7 : Inv X pins σ H5 s6 := I3.call' (ch := fp) I6.os I6.base I6.hok I6.bare fun b hb => ⟨(f3 b hb).1.2.2.2.1, (f3 b hb).1.2.1, (f3 b hb).1.2.2.2.2.1, (f3 b hb).1.2.2.2.2.2⟩
      have nC : H5 s3.heap.objs.size = none := cL ▸ (show H5 ce.locals = none from I6.free)
      obtain ⟨m, hn, _⟩ := I6.loc
      exact back D s3.heap.objs.size s6 m H5 I7 qq (cL ▸ (show s6.heap.Ns ce.locals m from hn)) (I3.fpOk (Nat.le_refl _) nC)
    · refine thnF (T.item (X.blk s3 H3 scope ce fp) rfl rfl rfl hc i [] s5 _ H5 (fun _ _ => False) I5 (foot I5 n5) st5 go) fun r s6 ⟨u, hr, h6⟩ => ?_
      subst hr
      refine thnF h6 fun _ s7 ⟨x, H7, I7, r7, y7, st7, n7⟩ => ?_
      have I8 := I7.pinned (foot I7 n7) (T.obj _ _ st7)
      refine thnF (pg.run _ s7 _ H7 x u _ I8 r7 (step x H7 y7)) fun _ s8 ⟨σ8, H8, I8, hw8, q8⟩ => ?_
      refine thnF (pt.run _ s8 σ8 H8 _ I8 q8) fun b s9 ⟨H9, I9, q9⟩ => ?_
      have turnEnd : ∀ {s' : Shared} {H' : Hp}, Inv (X.blk s3 H3 scope ce fp) ([] ++ pinsAt fp s7.heap) σ8 H' s' → Nx H' → ∃ m, m < n ∧ ∃ i H', Inv (X.blk s3 H3 scope ce fp) [] (wipe σ (own.map (·.2))) H' s' ∧ tn i s'.heap ∧ (∀ b ∈ fp, H' b = none) ∧ W i m H' := fun {s' H'} I' nx => by
        obtain ⟨m', hm, w'⟩ := hNx H' nx
        have pin : ∀ b ∈ fp, ∀ o, s7.heap.get? b = some o → s'.heap.get? b = some o ∧ H' b = none := fun b hb o e => by
          have z := I'.pin (b, o) (List.mem_append_right _ (List.mem_append_right _ (mem_pinsAt hb e)))
          exact ⟨z.1, z.2.1⟩
        refine ⟨m', hm, i + 1, H', (I'.unpinned (pins := [])).weak (by rw [← hw8, wipe_length]) (fun j v e => ?_), T.keep _ _ _ st7 fun b hb o e => (pin b hb o e).1, fun b hb => ?_, w'⟩
        · rw [← hw8] at e
          exact (wipe_some e).1
        · obtain ⟨o, e, _⟩ := T.obj _ _ st7 b hb
          exact (pin b hb o e).2
      cases b with
      | false =>
        simp only [Bool.false_eq_true, if_false] at q9 ⊢
        exact turnEnd I9 q9
      | true =>
        simp only [if_true] at q9 ⊢
        refine thnF (pe.run _ s9 σ8 H9 _ I9 q9) fun z s10 ⟨yv, H10, I10, r10, k, L, ey, hD10, room, nx⟩ => ?_
        subst ey
        exact add_in (X := X.blk s3 H3 scope ce fp) I10 r10 hD10 room fun s11 I11 => turnEnd I11 nx
  exact PpSet.codeAny_compStart_set loop (T.self X.A 0 _ _ _ st4 loop)
theorem pe_scM {elt tg iter : Expr} {ifs : List Expr} {scope : Scope} {own : List (PySem.Str × Nat)} {pos : Pos} {wi : TI} {g : TG} {tt : TT} {te : TE} (hc : X.calm = true) (hN : X.N.Nodup) (hi : PI X tg iter wi) (ok : BlkOk X.N X.env.scope scope own)
    (hg : ∀ (s : Shared) (H : Hp) (C : Addr) (cl : List (PySem.Str × Addr)) (fp : List Addr), PG (X.blk s H scope (compEnvC scope cl C X.env) fp) tg g) (ht : ∀ (s : Shared) (H : Hp) (C : Addr) (cl : List (PySem.Str × Addr)) (fp : List Addr), PTs (X.blk s H scope (compEnvC scope cl C X.env) fp) ifs tt)
    (he : ∀ (s : Shared) (H : Hp) (C : Addr) (cl : List (PySem.Str × Addr)) (fp : List Addr), PE (X.blk s H scope (compEnvC scope cl C X.env) fp) elt te) (hs : ∀ x, foldedSetIterable iter X.env x = pure x := by intro _; rfl) :
    PE X (.SetComp elt [⟨tg, iter, ifs, 0⟩] scope pos) (tScM X.prog X.w wi g tt te (own.map (·.2))) := by
  refine ⟨fun pins s σ H Q I h => ?_⟩
  rw [PpSet.eval_SetComp]
  refine scM_core hc hN I hi ok hg ht he hs h fun D C s' m H' I' q hn f => ⟨m, hn, fun h2 sb => ?_⟩
  obtain ⟨f0, f1, f2, f3, f4, f5⟩ := f
  exact ⟨.ref D, H', I'.turned (t' := s'.toks) (fun b o hb e => (sb.2 b hb).trans e) f0 f1 f3 f4 f5, rfl, q⟩
end
/-- over a list that stands still -/
theorem scM_list {P : Program} {w : World} {K : PySem.W.Frag} {a : Addr} {xs : List V} {g : TG} {tt : TT} {te : TE} {vs : List Nat} {σ : L2.St} {H1 : Hp} {D : Addr} {Qd : Hp → Prop} (Pv : Nat → Hp → Prop) (h0 : Pv 0 (upd H1 D (SetMO P w D []))) (hl : ∀ i H, i ≤ xs.length → Pv i H → SqL K H a xs)
    (hs : ∀ i x H, xs[i]? = some x → Pv i H → g x (wipe σ vs) H fun σ2 H2 => wipe σ2 vs = wipe σ vs ∧ tt σ2 H2 fun b H3 => if b = true then te σ2 H3 (PutM P w D (Pv (i + 1))) else Pv (i + 1) H3) (hd : ∀ H, Pv xs.length H → Qd H) :
    ∃ W : Nat → Nat → Hp → Prop, (∃ m, W 0 m (upd H1 D (SetMO P w D []))) ∧ ∀ i m H, W i m H →
      ((Itl K a).stop i H ∧ Qd H) ∨ ((Itl K a).go i H ∧ ∃ Nx : Hp → Prop, (∀ H', Nx H' → ∃ m', m' < m ∧ W (i + 1) m' H') ∧ ∀ x H', (Itl K a).yld i H x H' → g x (wipe σ vs) H' fun σ2 H2 => wipe σ2 vs = wipe σ vs ∧ tt σ2 H2 fun b H3 =>
        if b = true then te σ2 H3 (PutM P w D Nx) else Nx H3) := by
  refine ⟨fun i m H => m = xs.length - i ∧ i ≤ xs.length ∧ Pv i H, ⟨_, rfl, Nat.zero_le _, h0⟩, ?_⟩
  rintro i m H ⟨rfl, le, p⟩
  have q := hl i H le p
  by_cases lt : i < xs.length
  · refine .inr ⟨⟨xs, xs[i], q, by simp [lt]⟩, Pv (i + 1), fun H' p' => ⟨xs.length - (i + 1), by omega, rfl, lt, p'⟩, fun x H' y => ?_⟩
    obtain ⟨rfl, y⟩ := y
    exact hs i x _ (y xs q) p
  · obtain rfl : i = xs.length := by omega
    exact .inl ⟨⟨xs, q, Nat.le_refl _⟩, hd H p⟩
theorem scM_tup {P : Program} {w : World} {K : PySem.W.Frag} {a : Addr} {xs : List V} {g : TG} {tt : TT} {te : TE} {vs : List Nat} {σ : L2.St} {H1 : Hp} {D : Addr} {Qd : Hp → Prop} (Pv : Nat → Hp → Prop) (h0 : Pv 0 (upd H1 D (SetMO P w D []))) (hl : ∀ i H, i ≤ xs.length → Pv i H → SqT K H a xs)
    (hs : ∀ i x H, xs[i]? = some x → Pv i H → g x (wipe σ vs) H fun σ2 H2 => wipe σ2 vs = wipe σ vs ∧ tt σ2 H2 fun b H3 => if b = true then te σ2 H3 (PutM P w D (Pv (i + 1))) else Pv (i + 1) H3) (hd : ∀ H, Pv xs.length H → Qd H) :
    ∃ W : Nat → Nat → Hp → Prop, (∃ m, W 0 m (upd H1 D (SetMO P w D []))) ∧ ∀ i m H, W i m H →
      ((Itt K a).stop i H ∧ Qd H) ∨ ((Itt K a).go i H ∧ ∃ Nx : Hp → Prop, (∀ H', Nx H' → ∃ m', m' < m ∧ W (i + 1) m' H') ∧ ∀ x H', (Itt K a).yld i H x H' → g x (wipe σ vs) H' fun σ2 H2 => wipe σ2 vs = wipe σ vs ∧ tt σ2 H2 fun b H3 =>
        if b = true then te σ2 H3 (PutM P w D Nx) else Nx H3) := by
  refine ⟨fun i m H => m = xs.length - i ∧ i ≤ xs.length ∧ Pv i H, ⟨_, rfl, Nat.zero_le _, h0⟩, ?_⟩
  rintro i m H ⟨rfl, le, p⟩
  have q := hl i H le p
  by_cases lt : i < xs.length
  · refine .inr ⟨⟨xs, xs[i], q, by simp [lt]⟩, Pv (i + 1), fun H' p' => ⟨xs.length - (i + 1), by omega, rfl, lt, p'⟩, fun x H' y => ?_⟩
    obtain ⟨rfl, y⟩ := y
    exact hs i x _ (y xs q) p
  · obtain rfl : i = xs.length := by omega
    exact .inl ⟨⟨xs, q, Nat.le_refl _⟩, hd H p⟩
end PSG

set_option Elab.async false
set_option linter.all false
set_option maxRecDepth 100000
set_option maxHeartbeats 8000000
/-! either of two roads; any comprehension over what is walked; sorted sets of one kind -/
namespace PSG
open PySem PySem.Spec L2 PSS
theorem pi_or {X : Cx} {tg iter : Expr} {w1 w2 : TI} (h1 : PI X tg iter w1) (h2 : PI X tg iter w2) : PI X tg iter fun σ H R => w1 σ H R ∨ w2 σ H R :=
  ⟨fun pins s σ H R I h => h.elim (fun z => h1.run pins s σ H R I z) fun z => h2.run pins s σ H R I z⟩
theorem cr_or {X : Cx} {f : Value} {r r' : List V → Hp → VK → Prop} (h : CallR X f r) (h' : CallR X f r') : CallR X f fun xs H Q => r xs H Q ∨ r' xs H Q :=
  fun pins s σ H xs us Q I rx z => z.elim (fun z => h pins s σ H xs us Q I rx z) fun z => h' pins s σ H xs us Q I rx z
theorem pe_or2 {X : Cx} {e : Expr} {t t' : TE} (h : PE X e t) (h' : PE X e t') : PE X e fun σ H Q => t σ H Q ∨ t' σ H Q :=
  ⟨fun pins s σ H Q I z => z.elim (fun z => h.run pins s σ H Q I z) fun z => h'.run pins s σ H Q I z⟩
/-- what a comprehension's reading asks, by an invariant over the turns -/
theorem w_run {J : It} {B : (Hp → Prop) → V → Hp → Prop} {Qd : Hp → Prop} {H0 : Hp} (n : Nat) (Pv : Nat → Hp → Prop) (h0 : Pv 0 H0)
    (hs : ∀ i H, i ≤ n → Pv i H → (i = n ∧ J.stop i H) ∨ (i < n ∧ J.go i H ∧ ∀ x H', J.yld i H x H' → B (Pv (i + 1)) x H')) (hd : ∀ H, Pv n H → Qd H) :
    ∃ W : Nat → Nat → Hp → Prop, (∃ m, W 0 m H0) ∧ ∀ i m H, W i m H → (J.stop i H ∧ Qd H) ∨ (J.go i H ∧ ∃ Nx : Hp → Prop, (∀ H', Nx H' → ∃ m', m' < m ∧ W (i + 1) m' H') ∧ ∀ x H', J.yld i H x H' → B Nx x H') := by
  refine ⟨fun i m H => m = n - i ∧ i ≤ n ∧ Pv i H, ⟨_, rfl, Nat.zero_le _, h0⟩, ?_⟩
  rintro i m H ⟨rfl, le, p⟩
  rcases hs i H le p with ⟨rfl, st⟩ | ⟨lt, go, y⟩
  · exact .inl ⟨st, hd H p⟩
  · exact .inr ⟨go, Pv (i + 1), fun H' p' => ⟨n - (i + 1), by omega, rfl, lt, p'⟩, y⟩
theorem w_list {K : PySem.W.Frag} {a : Addr} {xs : List V} {B : (Hp → Prop) → V → Hp → Prop} {Qd : Hp → Prop} {H0 : Hp} (Pv : Nat → Hp → Prop) (h0 : Pv 0 H0) (hl : ∀ i H, i ≤ xs.length → Pv i H → SqL K H a xs)
    (hs : ∀ i x H, xs[i]? = some x → Pv i H → B (Pv (i + 1)) x H) (hd : ∀ H, Pv xs.length H → Qd H) :
    ∃ W : Nat → Nat → Hp → Prop, (∃ m, W 0 m H0) ∧ ∀ i m H, W i m H → ((Itl K a).stop i H ∧ Qd H) ∨ ((Itl K a).go i H ∧ ∃ Nx : Hp → Prop, (∀ H', Nx H' → ∃ m', m' < m ∧ W (i + 1) m' H') ∧ ∀ x H', (Itl K a).yld i H x H' → B Nx x H') := by
  refine w_run xs.length Pv h0 (fun i H le p => ?_) hd
  have q := hl i H le p
  by_cases lt : i < xs.length
  · refine .inr ⟨lt, ⟨xs, xs[i], q, by simp [lt]⟩, fun x H' y => ?_⟩
    obtain ⟨rfl, y⟩ := y
    exact hs i x _ (y xs q) p
  · exact .inl ⟨by omega, ⟨xs, q, by omega⟩⟩
theorem w_tup {K : PySem.W.Frag} {a : Addr} {xs : List V} {B : (Hp → Prop) → V → Hp → Prop} {Qd : Hp → Prop} {H0 : Hp} (Pv : Nat → Hp → Prop) (h0 : Pv 0 H0) (hl : ∀ i H, i ≤ xs.length → Pv i H → SqT K H a xs)
    (hs : ∀ i x H, xs[i]? = some x → Pv i H → B (Pv (i + 1)) x H) (hd : ∀ H, Pv xs.length H → Qd H) :
    ∃ W : Nat → Nat → Hp → Prop, (∃ m, W 0 m H0) ∧ ∀ i m H, W i m H → ((Itt K a).stop i H ∧ Qd H) ∨ ((Itt K a).go i H ∧ ∃ Nx : Hp → Prop, (∀ H', Nx H' → ∃ m', m' < m ∧ W (i + 1) m' H') ∧ ∀ x H', (Itt K a).yld i H x H' → B Nx x H') := by
  refine w_run xs.length Pv h0 (fun i H le p => ?_) hd
  have q := hl i H le p
  by_cases lt : i < xs.length
  · refine .inr ⟨lt, ⟨xs, xs[i], q, by simp [lt]⟩, fun x H' y => ?_⟩
    obtain ⟨rfl, y⟩ := y
    exact hs i x _ (y xs q) p
  · exact .inl ⟨by omega, ⟨xs, q, by omega⟩⟩
/-- enumerate(list): each turn brings a new tuple -/
theorem w_enum {K : PySem.W.Frag} {a : Addr} {xs : List V} {B : (Hp → Prop) → V → Hp → Prop} {Qd : Hp → Prop} {H0 : Hp} (Pv : Nat → Hp → Prop) (h0 : Pv 0 H0) (hl : ∀ i H, i ≤ xs.length → Pv i H → SqL K H a xs)
    (hs : ∀ i x H T, xs[i]? = some x → Pv i H → H T = none → B (Pv (i + 1)) (.ref T) (upd H T (.tup [.int (i : Nat), x]))) (hd : ∀ H, Pv xs.length H → Qd H) :
    ∃ W : Nat → Nat → Hp → Prop, (∃ m, W 0 m H0) ∧ ∀ i m H, W i m H → ((Ite K a).stop i H ∧ Qd H) ∨ ((Ite K a).go i H ∧ ∃ Nx : Hp → Prop, (∀ H', Nx H' → ∃ m', m' < m ∧ W (i + 1) m' H') ∧ ∀ x H', (Ite K a).yld i H x H' → B Nx x H') := by
  refine w_run xs.length Pv h0 (fun i H le p => ?_) hd
  have q := hl i H le p
  by_cases lt : i < xs.length
  · refine .inr ⟨lt, ⟨xs, xs[i], q, by simp [lt]⟩, fun x H' y => ?_⟩
    obtain ⟨T, v, rfl, hT, rfl, y⟩ := y
    exact hs i v H T (y xs q) p hT
  · exact .inl ⟨by omega, ⟨xs, q, by omega⟩⟩
theorem w_range {lo : Int} {n : Nat} {B : (Hp → Prop) → V → Hp → Prop} {Qd : Hp → Prop} {H0 : Hp} (Pv : Nat → Hp → Prop) (h0 : Pv 0 H0)
    (hs : ∀ i H, i < n → Pv i H → B (Pv (i + 1)) (.int (lo + i)) H) (hd : ∀ H, Pv n H → Qd H) :
    ∃ W : Nat → Nat → Hp → Prop, (∃ m, W 0 m H0) ∧ ∀ i m H, W i m H → ((Itr lo n).stop i H ∧ Qd H) ∨ ((Itr lo n).go i H ∧ ∃ Nx : Hp → Prop, (∀ H', Nx H' → ∃ m', m' < m ∧ W (i + 1) m' H') ∧ ∀ x H', (Itr lo n).yld i H x H' → B Nx x H') := by
  refine w_run n Pv h0 (fun i H le p => ?_) hd
  by_cases lt : i < n
  · refine .inr ⟨lt, lt, fun x H' y => ?_⟩
    obtain ⟨rfl, rfl⟩ := y
    exact hs i _ lt p
  · exact .inl ⟨by omega, Nat.le_of_not_lt lt⟩
/-! a list or a tuple that stands still, walked -/
theorem same_tup {K : PySem.W.Frag} {H G : Hp} {a : Addr} {xs : List V} (s : Same H G) (h : SqT K H a xs) : SqT K G a xs := by
  rcases h with (h | ⟨o, h⟩) | h
  · exact .inl (.inl (s _ _ h))
  · exact .inl (.inr ⟨o, s _ _ h⟩)
  · exact .inr h
structure Wk (J : It) (H : Hp) (xs : List V) : Prop where
  go : ∀ G, Same H G → ∀ i, i < xs.length → J.go i G
  yl : ∀ G, Same H G → ∀ i x G', J.yld i G x G' → G' = G ∧ xs[i]? = some x
  st : ∀ G, Same H G → J.stop xs.length G
theorem wk_list {K : PySem.W.Frag} {H : Hp} {a : Addr} {xs : List V} (h : SqL K H a xs) : Wk (Itl K a) H xs where
  go := fun G s i lt => ⟨xs, xs[i], s.seq h, by simp [lt]⟩
  yl := fun G s i x G' y => ⟨y.1, y.2 xs (s.seq h)⟩
  st := fun G s => ⟨xs, s.seq h, Nat.le_refl _⟩
theorem wk_tup {K : PySem.W.Frag} {H : Hp} {a : Addr} {xs : List V} (h : SqT K H a xs) : Wk (Itt K a) H xs where
  go := fun G s i lt => ⟨xs, xs[i], same_tup s h, by simp [lt]⟩
  yl := fun G s i x G' y => ⟨y.1, y.2 xs (same_tup s h)⟩
  st := fun G s => ⟨xs, same_tup s h, Nat.le_refl _⟩
theorem seq_or {K : PySem.W.Frag} {i0 : Nat} {σ : L2.St} {H : Hp} {a : Addr} {xs : List V} {R : It → Hp → Prop} (hσ : σ[i0]? = some (some (.ref a))) (hq : SqL K H a xs ∨ SqT K H a xs) (hR : ∀ J : It, Wk J H xs → R J H) :
    iList K (tVar i0) σ H R ∨ iTup K (tVar i0) σ H R :=
  hq.elim (fun z => .inl ⟨_, hσ, a, rfl, ⟨xs, z⟩, hR _ (wk_list z)⟩) fun z => .inr ⟨_, hσ, a, rfl, ⟨xs, z⟩, hR _ (wk_tup z)⟩
theorem w_wk {J : It} {H : Hp} {xs : List V} {B : (Hp → Prop) → V → Hp → Prop} {Qd : Hp → Prop} {H0 : Hp} (wk : Wk J H xs) (Pv : Nat → Hp → Prop) (h0 : Pv 0 H0) (hl : ∀ i G, i ≤ xs.length → Pv i G → Same H G)
    (hs : ∀ i x G, xs[i]? = some x → Pv i G → B (Pv (i + 1)) x G) (hd : ∀ G, Pv xs.length G → Qd G) :
    ∃ W : Nat → Nat → Hp → Prop, (∃ m, W 0 m H0) ∧ ∀ i m H, W i m H → (J.stop i H ∧ Qd H) ∨ (J.go i H ∧ ∃ Nx : Hp → Prop, (∀ H', Nx H' → ∃ m', m' < m ∧ W (i + 1) m' H') ∧ ∀ x H', J.yld i H x H' → B Nx x H') := by
  refine w_run xs.length Pv h0 (fun i G le p => ?_) hd
  have k := hl i G le p
  by_cases lt : i < xs.length
  · refine .inr ⟨lt, wk.go G k i lt, fun x H' y => ?_⟩
    obtain ⟨rfl, e⟩ := wk.yl G k i x H' y
    exact hs i x _ e p
  · obtain rfl : i = xs.length := by omega
    exact .inl ⟨rfl, wk.st G k⟩
theorem for_wk {J : It} {H : Hp} {xs : List V} {g : TG} {tb : TS} {D : Ends} {σ : L2.St} {H1 : Hp} (wk : Wk J H xs) (Pv : Nat → L2.St → Hp → Prop) (h0 : Pv 0 σ H1) (hl : ∀ i σ G, i ≤ xs.length → Pv i σ G → Same H G)
    (hs : ∀ i x σ G, xs[i]? = some x → Pv i σ G → g x σ G fun σ2 H2 => tb { D with nx := Pv (i + 1), ct := Pv (i + 1), bk := D.nx } σ2 H2) (hd : ∀ σ G, Pv xs.length σ G → D.nx σ G) :
    ∃ W : Nat → Nat → L2.St → Hp → Prop, (∃ m, W 0 m σ H1) ∧ ∀ i m σ H, W i m σ H →
      (J.stop i H ∧ D.nx σ H) ∨ (J.go i H ∧ ∃ N : L2.St → Hp → Prop, (∀ σ' H', N σ' H' → ∃ m', m' < m ∧ W (i + 1) m' σ' H') ∧ ∀ x H', J.yld i H x H' → g x σ H' fun σ2 H2 => tb { D with nx := N, ct := N, bk := D.nx } σ2 H2) := by
  refine ⟨fun i m σ G => m = xs.length - i ∧ i ≤ xs.length ∧ Pv i σ G, ⟨_, rfl, Nat.zero_le _, h0⟩, ?_⟩
  rintro i m σ G ⟨rfl, le, p⟩
  have k := hl i σ G le p
  by_cases lt : i < xs.length
  · refine .inr ⟨wk.go G k i lt, Pv (i + 1), fun σ' H' p' => ⟨xs.length - (i + 1), by omega, rfl, lt, p'⟩, fun x H' y => ?_⟩
    obtain ⟨rfl, e⟩ := wk.yl G k i x H' y
    exact hs i x σ _ e p
  · obtain rfl : i = xs.length := by omega
    exact .inl ⟨wk.st G k, hd σ G p⟩
/-! the order of keys of one kind -/
def ltK : Key → Key → Bool
  | .inl i, .inl j => decide (i < j)
  | .inr x, .inr y => decide (x.cps.toList < y.cps.toList)
  | _, _ => false
theorem ltK_irrefl (k : Key) : ltK k k = false := by
  cases k with
  | inl i => simp [ltK]
  | inr x => simp [ltK, List.lt_irrefl]
theorem ltK_asymm {a b : Key} (h : ltK a b = true) : ltK b a = false := by
  cases a <;> cases b <;> simp only [ltK, decide_eq_true_eq, decide_eq_false_iff_not, Bool.false_eq_true] at h ⊢
  · omega
  · exact List.lt_asymm h
/-- all of one kind -/
def OneK (L : List Key) : Prop := (∀ k ∈ L, isIK k) ∨ (∀ k ∈ L, isSK k)
theorem rising_lt : ∀ {p : Str} {ys : List Str}, PyProof.Rows.risingS p ys = true → (p :: ys).Nodup → ∀ y ∈ ys, p.cps.toList < y.cps.toList
  | _, [], _, _ => fun y hy => by cases hy
  | p, x :: r, h, nd => by
    simp only [PyProof.Rows.risingS, Bool.and_eq_true, Bool.not_eq_true'] at h
    obtain ⟨h1, h2⟩ := h
    obtain ⟨n1, n2⟩ := List.nodup_cons.mp nd
    have hx : p.cps.toList < x.cps.toList := by
      have le : ¬ x.cps.toList < p.cps.toList := by
        intro z
        rw [PyProof.Rows.ltCps_eq, decide_eq_true z] at h1
        cases h1
      refine Classical.byContradiction fun z => n1 ?_
      have e : p.cps.toList = x.cps.toList := List.le_antisymm (List.not_lt.mp le) (List.not_lt.mp z)
      have e2 : p = x := by
        obtain ⟨⟨a⟩⟩ := p
        obtain ⟨⟨b⟩⟩ := x
        cases e
        rfl
      rw [e2]
      exact List.mem_cons_self
    intro y hy
    rcases List.mem_cons.mp hy with rfl | hy
    · exact hx
    · exact List.lt_trans hx (rising_lt h2 n2 y hy)
theorem rising_pw : ∀ {p : Str} {ys : List Str}, PyProof.Rows.risingS p ys = true → (p :: ys).Nodup → (p :: ys).Pairwise fun a b => a.cps.toList < b.cps.toList
  | p, [], _, _ => by simp
  | p, x :: r, h, nd => by
    have h2 := h
    simp only [PyProof.Rows.risingS, Bool.and_eq_true] at h2
    exact List.pairwise_cons.mpr ⟨rising_lt h nd, rising_pw h2.2 (List.nodup_cons.mp nd).2⟩
theorem sortedS_pw {ys : List Str} (h : PyProof.Rows.sortedS ys = true) (nd : ys.Nodup) : ys.Pairwise fun a b => a.cps.toList < b.cps.toList := by
  cases ys with
  | nil => exact List.Pairwise.nil
  | cons p r => exact rising_pw h nd
/-- sorted(a set of one kind) -/
def rSortK (P : Program) (w : World) : List V → Hp → VK → Prop := fun vs H Q => ∃ (a : Addr) (L : List Key), vs = [.ref a] ∧ H a = some (SetMO P w a L) ∧ L.length < 64 ∧ OneK L ∧
  ∀ (zs : List Key) (p : Addr), zs.Pairwise (fun a b => ltK a b = true) → (∀ k, k ∈ zs ↔ k ∈ L) → zs.length = L.length → H p = none → Q (.ref p) (upd H p (.lst (zs.map kV)))
theorem cr_sortK {X : Cx} (hc : X.calm = true) : CallR X (.builtin "sorted") (rSortK X.prog X.w) := by
  intro pins s σ H xs us Q I r h
  obtain ⟨a, L, rfl, ha, few, one, q⟩ := h
  rcases one with one | one
  · refine cr_sortM hc pins s σ H _ us Q I r ⟨a, L, rfl, ha, few, one, fun ns p pw mem len hp => ?_⟩
    have z := q (ns.map Sum.inl) p (List.pairwise_map.mpr (pw.imp fun {a b} l => decide_eq_true l)) (fun k => ?_) (by rw [List.length_map, len]) hp
    · rw [List.map_map] at z
      exact z
    · cases k with
      | inl i => rw [mem_map_inl, mem]
      | inr x => exact ⟨fun m => by simp at m, fun m => by obtain ⟨i, e⟩ := one _ m; cases e⟩
  · refine cr_sortMS hc pins s σ H _ us Q I r ⟨a, L, rfl, ha, few, one, fun ns p st nd mem len hp => ?_⟩
    have z := q (ns.map Sum.inr) p (List.pairwise_map.mpr ((sortedS_pw st nd).imp fun {a b} l => decide_eq_true l)) (fun k => ?_) (by rw [List.length_map, len]) hp
    · rw [List.map_map] at z
      exact z
    · cases k with
      | inr i => rw [mem_map_inr, mem]
      | inl x => exact ⟨fun m => by simp at m, fun m => by obtain ⟨i, e⟩ := one _ m; cases e⟩
/-- what stands at place j of a rising list has j ones below it -/
theorem below_len : ∀ {zs : List Key} {j : Nat} {k : Key}, zs.Pairwise (fun a b => ltK a b = true) → zs[j]? = some k → (zs.filter fun x => ltK x k).length = j
  | [], j, k, _, h => by simp at h
  | z :: zs, 0, k, pw, h => by
    have e : z = k := by simpa using h
    subst e
    obtain ⟨h1, _⟩ := List.pairwise_cons.mp pw
    rw [List.filter_cons, ltK_irrefl]
    simp only [Bool.false_eq_true, if_false]
    rw [List.filter_eq_nil_iff.mpr fun x hx => by rw [ltK_asymm (h1 x hx)]; simp]
    rfl
  | z :: zs, j + 1, k, pw, h => by
    obtain ⟨h1, h2⟩ := List.pairwise_cons.mp pw
    have hk : zs[j]? = some k := by simpa using h
    rw [List.filter_cons, h1 k (List.mem_of_getElem? hk)]
    simp only [if_true, List.length_cons]
    rw [below_len h2 hk]
/-- the number of the different ones below -/
def rankK (ks : List Key) (k : Key) : Nat := (sof (ks.filter fun x => ltK x k)).length
theorem rank_at {ks zs : List Key} {j : Nat} {k : Key} (pw : zs.Pairwise fun a b => ltK a b = true) (mem : ∀ k, k ∈ zs ↔ k ∈ ks) (h : zs[j]? = some k) : rankK ks k = j := by
  rw [← below_len pw h]
  have nz : zs.Nodup := pw.imp fun {a b} l e => by rw [e, ltK_irrefl] at l; cases l
  refine (List.perm_ext_iff_of_nodup (nd_sof _) (nz.filter _)).mpr (fun x => ?_) |>.length_eq
  rw [mem_sof, List.mem_filter, List.mem_filter, mem]
end PSG

set_option Elab.async false
set_option linter.all false
set_option maxRecDepth 100000
set_option maxHeartbeats 8000000
/-! f(c = x, b = y, a = z): keywords alone, in another sequence than the parameters -/
namespace PSG
open PySem PySem.Spec L2
section
variable {X : Cx} {CT : CXT} {k : Nat} {f : Addr} {fd : FuncData} {ps ks : List Str} {sp : Sp} {E : L2.St → XK} {x : Str} {p pos : Pos} {kws : List Keyword} {t : TA}
def tCallG (sp : Sp) (gV : List V → List V) (E : L2.St → XK) (t : TA) : TE := fun σ H Q => t σ H fun vs H1 => sp (gV vs) H1 Q (E σ)
theorem pe_callR {g : List Value → List Value} {gV : List V → List V} (F : FnOk X.prog X.w X.K X.mg X.base CT k f fd ps sp) (room : Room k X.A) (hg : Gl X x) (hm : X.mg x = some (.ref f)) (keep : PySem.W.keepIn X.K (.ref f) = true)
    (bi : ∀ (s : Shared) (ws : List Value), X.K.In s.heap → (g ws).length = ps.length → BindsTo s fd ⟨[], ks.zip ws⟩ (ps.zip (g ws))) (rel : ∀ {vs : List V} {ws : List Value}, Vals vs ws → Vals (gV vs) (g ws)) (pass : ∀ σ, PassesAt CT X σ (E σ))
    (ha : PK X kws t) (hall : (backToKw pos (keywordEach kws X.env)).all (·.1.isSome) = true := by rfl) (hks : (backToKw pos (keywordEach kws X.env)).filterMap (·.1) = ks := by rfl)
    (nd : (x == ("__debug__" : Str)) = false := by decide) (sn : ((backTo pos (starEach [] X.env)).any (·.1) || (backToKw pos (keywordEach kws X.env)).any (·.1.isNone)) = false := by rfl) :
    PE X (.Call (.Name x p) [] kws pos) (tCallG sp gV E t) where
  run := fun pins s σ H Q I h => by
    refine wpAny_Call_Name_kw (ld_glob I hg hm ?_ nd)
    refine PySem.W.callWith_KW0 (h₀ := X.base) I.ok.mod.kin keep hall (thn (ha.run pos pins s σ H _ I h) fun ws s1 ⟨vs, H1, I1, r1, q1⟩ => ⟨I1.kIn, ?_⟩) sn
    rw [hks]
    show wpAny _ _ (call (.ref f) [] (ks.zip ws)) _ _ _
    have r2 := rel r1
    have lw : (g ws).length = ps.length := r2.length.symm.trans (F.len _ _ _ _ q1)
    refine wpAny_call (codeAny_mono (F.run X.A X.stack s1 H1 ⟨[], ks.zip ws⟩ (g ws) (gV vs) Q (E σ) room I1.env0 (bi s1 ws I1.kIn lw) r2 q1) fun r s' z => ?_)
    match r, z with
    | .error er, z => exact pass σ pins H1 s1 er s' I1 z
    | .ok (.ret u), z => exact I1.after z
end
theorem for_enum {K : PySem.W.Frag} {a : Addr} {xs : List V} {g : TG} {tb : TS} {D : Ends} {σ : L2.St} {H : Hp} (Pv : Nat → L2.St → Hp → Prop) (h0 : Pv 0 σ H) (hl : ∀ i σ H, Pv i σ H → SqL K H a xs)
    (hs : ∀ i x σ H T, xs[i]? = some x → Pv i σ H → H T = none → g (.ref T) σ (upd H T (.tup [.int (i : Nat), x])) fun σ2 H2 => tb { D with nx := Pv (i + 1), ct := Pv (i + 1), bk := D.nx } σ2 H2) (hd : ∀ σ H, Pv xs.length σ H → D.nx σ H) :
    ∃ W : Nat → Nat → L2.St → Hp → Prop, (∃ m, W 0 m σ H) ∧ ∀ i m σ H, W i m σ H →
      ((Ite K a).stop i H ∧ D.nx σ H) ∨ ((Ite K a).go i H ∧ ∃ N : L2.St → Hp → Prop, (∀ σ' H', N σ' H' → ∃ m', m' < m ∧ W (i + 1) m' σ' H') ∧ ∀ x H', (Ite K a).yld i H x H' → g x σ H' fun σ2 H2 => tb { D with nx := N, ct := N, bk := D.nx } σ2 H2) := by
  refine ⟨fun i m σ H => m = xs.length - i ∧ i ≤ xs.length ∧ Pv i σ H, ⟨xs.length, by simp, Nat.zero_le _, h0⟩, fun i m σ H hw => ?_⟩
  obtain ⟨hm, hi, p⟩ := hw
  have sq := hl i σ H p
  by_cases lt : i < xs.length
  · refine .inr ⟨⟨xs, xs[i], sq, List.getElem?_eq_getElem lt⟩, Pv (i + 1), fun σ' H' q => ⟨m - 1, by omega, by omega, by omega, q⟩, fun v H' y => ?_⟩
    obtain ⟨T, x, rfl, hT, rfl, at_⟩ := y
    exact hs i x σ H T (at_ xs sq) p hT
  · have e : i = xs.length := by omega
    refine .inl ⟨⟨xs, sq, by omega⟩, hd σ H ?_⟩
    rw [← e]
    exact p
theorem pass0At {X : Cx} : ∀ σ : L2.St, PassesAt CX0 X σ ((fun _ => E0) σ) := fun _ _ _ _ _ _ _ h => h.elim
/-- three, the other way round -/
def flip3 {α : Type} : List α → List α
  | [a, b, c] => [c, b, a]
  | _ => []
theorem flip3_rel {vs : List V} {ws : List Value} (r : Vals vs ws) : Vals (flip3 vs) (flip3 ws) := by
  match vs, ws, r with
  | [], [], .nil => exact .nil
  | [_], [_], _ => exact .nil
  | [_, _], [_, _], _ => exact .nil
  | [_, _, _], [_, _, _], .cons r1 (.cons r2 (.cons r3 .nil)) => exact .cons r3 (.cons r2 (.cons r1 .nil))
  | _ :: _ :: _ :: _ :: _, _ :: _ :: _ :: _ :: _, _ => exact .nil
end PSG

set_option Elab.async false
set_option linter.all false
/-! sequences that rise strictly: one element put in, buckets, and that there is one such sequence alone -/
namespace PSO
variable {α : Type}
theorem pw_one {T : α → α → Prop} (asym : ∀ a b, T a b → ¬ T b a) : ∀ {L M : List α}, L.Perm M → L.Pairwise T → M.Pairwise T → L = M
  | [], M, p, _, _ => by
    have := p.length_eq
    cases M with
    | nil => rfl
    | cons y r => simp at this
  | x :: L, [], p, _, _ => by
    have := p.length_eq
    simp at this
  | x :: L, y :: M, p, hl, hm => by
    obtain ⟨l1, l2⟩ := List.pairwise_cons.mp hl
    obtain ⟨m1, m2⟩ := List.pairwise_cons.mp hm
    have e : x = y := by
      refine Classical.byContradiction fun n => ?_
      have hx : x ∈ M := (List.mem_cons.mp (p.mem_iff.mp List.mem_cons_self)).resolve_left n
      have hy : y ∈ L := (List.mem_cons.mp (p.mem_iff.mpr List.mem_cons_self)).resolve_left fun e => n e.symm
      exact asym _ _ (l1 y hy) (m1 x hx)
    subst e
    rw [pw_one asym (List.Perm.cons_inv p) l2 m2]
/-- x put at its place -/
theorem pw_put {T : α → α → Prop} (tr : ∀ a b c, T a b → T b c → T a c) {L : List α} {p : Nat} {x : α} (pw : L.Pairwise T) (lo : p = 0 ∨ ∃ y, L[p - 1]? = some y ∧ T y x) (hi : ∀ i y, p ≤ i → L[i]? = some y → T x y) :
    (L.take p ++ x :: L.drop p).Pairwise T := by
  have up : ∀ y ∈ L.drop p, T x y := fun y hy => by
    obtain ⟨i, hi'⟩ := List.mem_iff_getElem?.mp hy
    rw [List.getElem?_drop] at hi'
    exact hi _ _ (Nat.le_add_right _ _) hi'
  have down : ∀ y ∈ L.take p, T y x := fun y hy => by
    obtain ⟨i, hi'⟩ := List.mem_iff_getElem?.mp hy
    rw [List.getElem?_take] at hi'
    split at hi'
    · next lt =>
      rcases lo with rfl | ⟨z, hz, tz⟩
      · omega
      · by_cases e : i = p - 1
        · rw [e, hz] at hi'
          cases hi'
          exact tz
        · obtain ⟨l1, e1⟩ := List.getElem?_eq_some_iff.mp hi'
          obtain ⟨l2, e2⟩ := List.getElem?_eq_some_iff.mp hz
          have q := List.pairwise_iff_getElem.mp pw i (p - 1) l1 l2 (by omega)
          rw [e1, e2] at q
          exact tr _ _ _ q tz
    · cases hi'
  have both := List.pairwise_append.mp (by rw [List.take_append_drop]; exact pw : (L.take p ++ L.drop p).Pairwise T)
  refine List.pairwise_append.mpr ⟨both.1, List.pairwise_cons.mpr ⟨up, both.2.1⟩, fun a ha b hb => ?_⟩
  rcases List.mem_cons.mp hb with rfl | hb
  · exact down a ha
  · exact both.2.2 a ha b hb
theorem perm_put {L : List α} {p : Nat} {x : α} : (L.take p ++ x :: L.drop p).Perm (x :: L) := by
  refine (List.perm_middle).trans ?_
  rw [List.take_append_drop]
/-- by values one behind another, each bucket in the sequence as it was -/
def buckets {β : Type} [DecidableEq β] (key : α → β) (vs : List β) (L : List α) : List α := vs.flatMap fun v => L.filter fun x => decide (key x = v)
theorem mem_buckets {β : Type} [DecidableEq β] {key : α → β} {vs : List β} {L : List α} {x : α} : x ∈ buckets key vs L ↔ x ∈ L ∧ key x ∈ vs := by
  unfold buckets
  rw [List.mem_flatMap]
  constructor
  · rintro ⟨v, hv, hx⟩
    obtain ⟨h1, h2⟩ := List.mem_filter.mp hx
    exact ⟨h1, by rw [of_decide_eq_true h2]; exact hv⟩
  · rintro ⟨h1, h2⟩
    exact ⟨_, h2, List.mem_filter.mpr ⟨h1, decide_eq_true rfl⟩⟩
theorem pw_buckets {β : Type} [DecidableEq β] {key : α → β} {R : β → β → Prop} {T : α → α → Prop} {L : List α} (pw : L.Pairwise T) : ∀ {vs : List β}, vs.Pairwise R → (buckets key vs L).Pairwise fun a b => R (key a) (key b) ∨ (key a = key b ∧ T a b)
  | [], _ => List.Pairwise.nil
  | v :: vs, h => by
    obtain ⟨h1, h2⟩ := List.pairwise_cons.mp h
    have e : buckets key (v :: vs) L = (L.filter fun x => decide (key x = v)) ++ buckets key vs L := rfl
    rw [e]
    refine List.pairwise_append.mpr ⟨?_, pw_buckets pw h2, fun a ha b hb => ?_⟩
    · have q := pw.filter (fun x => decide (key x = v))
      refine List.Pairwise.imp_of_mem (fun {a b} ha hb t => .inr ⟨?_, t⟩) q
      rw [of_decide_eq_true (List.mem_filter.mp ha).2, of_decide_eq_true (List.mem_filter.mp hb).2]
    · left
      rw [of_decide_eq_true (List.mem_filter.mp ha).2]
      exact h1 _ (mem_buckets.mp hb).2
theorem nodup_of_pw {T : α → α → Prop} (irr : ∀ a, ¬ T a a) {L : List α} (pw : L.Pairwise T) : L.Nodup := List.Pairwise.imp (S := fun a b => a ≠ b) (fun {a b} t (e : a = b) => irr a (by
  rw [← e] at t
  exact t)) pw
/-- the same elements, each once: a rearrangement -/
theorem perm_of_mem {L M : List α} (hl : L.Nodup) (hm : M.Nodup) (h : ∀ x, x ∈ L ↔ x ∈ M) : L.Perm M := (List.perm_ext_iff_of_nodup hl hm).mpr h
end PSO

set_option Elab.async false
set_option linter.all false
set_option maxRecDepth 100000
set_option maxHeartbeats 8000000
namespace PSE
open PySem PySem.Spec L2 PSG
theorem called_any {M : Model} {A : Around} {E : Value → Shared → Prop} {s : Shared} {c : Value} {Q : Bool → Shared → Prop} (h : ∀ b, Q b s) : wpAny M A (Builtin.SmallTypes.calledThroughType c) Q E s := by
  unfold Builtin.SmallTypes.calledThroughType
  exact wpAny_bind (wpAny_stack_any fun st => wpAny_pure (h _))
/-- the walker of a tuple, and the heap with it and the enumerate that holds it -/
abbrev twO (a : Addr) : Obj := { cls := .type "tuple_iterator", data := .fields #[.ref a, .int 0 0] }
abbrev enO (h : Heap) : Obj := { cls := .type "enumerate", data := .fields #[.none, .bool false, .ref h.objs.size, rawInt 0, .none, .none] }
theorem new_enum_tuple (a : Addr) (items : Array Value) (n : Nat) (dct : Option Addr) (sl : Array (Option Value)) :
    Meets (Builtin.«enumerate.__new__» { pos := [.type "enumerate", .ref a] }) fun _ R s => s.heap.get? a = some { cls := .type "tuple", dict := dct, data := .seq items n, slots := sl } ∧
      R (.ok (.ret (.ref (s.heap.push (twO a)).objs.size))) { s with heap := (s.heap.push (twO a)).push (enO s.heap) } := by
  refine Meets.of_wp fun prog w A R s h => ?_
  obtain ⟨hp, g, d, tk, os⟩ := s
  obtain ⟨hl, hR⟩ := h
  have hT : hp.IsTuple a items := ⟨_, hl, rfl, n, rfl⟩
  have hsub := sub_enumerate
  unfold Builtin.«enumerate.__new__»
  refine wpAny_bind (wpAny_bind (wpAny_pure (wpAny_ite_false rfl (wpAny_bind (wpAny_of_eq hsub (wpAny_ite_false rfl (wpAny_pure (wpAny_ite_true rfl (wpAny_bind (called_any fun short => ?_))))))))))
  have made : ∀ {Q : Value → Shared → Prop} {E : Value → Shared → Prop}, Q (.ref (hp.push (twO a)).objs.size) ⟨(hp.push (twO a)).push (enO hp), g, d, tk, os⟩ →
      wpAny (model prog w) A.in1 (Builtin.SmallTypes.newRecord (.type "enumerate") (Builtin.SmallTypes.ownedTupleFields ++ [.ref hp.objs.size, rawInt 0, .none, .none])) Q E ⟨hp.push (twO a), g, d, tk, os⟩ := fun q => by
    unfold Builtin.SmallTypes.newRecord
    exact wpAny_newObj_type q (by first | rfl | (show _ ≤ sizeLine + 2; decide) | (show sizeOk (.fields #[_, _, _, _, _, _]); exact (by decide : 6 ≤ sizeLine + 2)))
  cases short
  · exact wpAny_ite_false rfl (wpAny_bind (wpAny_of_eq (a := (Value.ref a, none)) rfl (wpAny_bind (wpAny_pyIter_tuple hT (wpAny_bind (made (wpAny_pure ⟨_, rfl, hR⟩)))))))
  · exact wpAny_ite_true rfl (wpAny_bind (wpAny_pure (wpAny_bind (wpAny_pyIter_tuple hT (wpAny_bind (made (wpAny_pure ⟨_, rfl, hR⟩)))))))
section
variable {prog : Program} {w : World} {A : Around} {E : Value → Shared → Prop} {s : Shared}
theorem call_enum_tuple {a : Addr} {items : Array Value} {Q : Value → Shared → Prop} (hT : s.heap.IsTuple a items)
    (h : ∀ h', IsEnum h' (s.heap.objs.size + 1) s.heap.objs.size 0 .none → h'.IsTupleIter s.heap.objs.size a 0 → (∀ b o, s.heap.get? b = some o → h'.get? b = some o) → Q (.ref (s.heap.objs.size + 1)) { s with heap := h' }) :
    wpAny (model prog w) A (call (.type "enumerate") [.ref a]) Q E s := by
  obtain ⟨⟨c, dct, dt, sl⟩, hl, hc, n, hd⟩ := hT
  cases hc
  cases hd
  refine callType_new F.called_enumerate (by decide) (F.typeCall_enumerate_1 _) (F.newCall_enumerate_1 _) (fun obj => F.args_object_init_2 obj _) F.entry_enumerate_new (new_enum_tuple a items n dct sl) ⟨hl, ?_⟩
  have sz : (s.heap.push (twO a)).objs.size = s.heap.objs.size + 1 := Heap.size_push ..
  have old : ∀ b o, s.heap.get? b = some o → ((s.heap.push (twO a)).push (enO s.heap)).get? b = some o := fun b o x => Heap.get?_push_of_some _ (Heap.get?_push_of_some _ x)
  have he : IsEnum ((s.heap.push (twO a)).push (enO s.heap)) (s.heap.objs.size + 1) s.heap.objs.size 0 .none := sz ▸ Heap.get?_push_size (s.heap.push (twO a)) (o := enO s.heap) rfl
  have hi : ((s.heap.push (twO a)).push (enO s.heap)).IsTupleIter s.heap.objs.size a 0 := ⟨_, Heap.get?_push_of_some _ (Heap.get?_push_size _ rfl), rfl, rfl⟩
  show _ ∧ _
  rw [sz]
  exact ⟨⟨_, he, rfl⟩, h _ he hi old⟩
end
/-- the tuple at a, its items in new pairs with their places -/
def IteT (K : PySem.W.Frag) (a : Addr) : It where
  go := fun i H => ∃ xs x, SqT K H a xs ∧ xs[i]? = some x
  yld := fun i H v H' => ∃ T x, v = .ref T ∧ H T = none ∧ H' = upd H T (.tup [.int (i : Nat), x]) ∧ ∀ xs, SqT K H a xs → xs[i]? = some x
  stop := fun i H => ∃ xs, SqT K H a xs ∧ xs.length = i
theorem turn_enumT {P : Program} {w : World} {K : PySem.W.Frag} {elts : List Expr} {kk : Nat} {tpos : Pos} (a e it : Addr) :
    Turn P w K (.Tuple elts kk tpos) (IteT K a) [e, it] e fun i h => (∃ old, IsEnum h e it ((i : Nat) : Int) old) ∧ h.IsTupleIter it a i ∧ e ≠ it := by
  have two : ∀ b, b ∈ [e, it] ↔ b = e ∨ b = it := fun b => by simp
  have apart : ∀ {h : Heap} {its : Array Value} {old : Value} {c : Int} {i : Nat}, IsEnum h e it c old → h.IsTupleIter it a i → h.IsTuple a its → a ≠ e ∧ a ≠ it := fun he hi ht => by
    obtain ⟨o, ho, hc, _⟩ := ht
    obtain ⟨o2, ho2, hc2, _⟩ := hi
    refine ⟨fun z => ?_, fun z => ?_⟩
    · rw [z, he] at ho
      cases ho
      exact absurd (Value.type.inj hc) (by decide)
    · rw [z, ho2] at ho
      cases ho
      exact absurd (Value.type.inj (hc2.symm.trans hc)) (by decide)
  refine ⟨by simp, ?_, ?_, ?_, ?_, ?_⟩
  · rintro i h ⟨⟨old, he⟩, ⟨o, ho, hc, hd⟩, _⟩ b hb
    rcases (two b).mp hb with rfl | rfl
    · exact ⟨_, he, fun v q => nomatch q⟩
    · exact ⟨o, ho, fun v q => nomatch hd.symm.trans q⟩
  · rintro i h h' ⟨⟨old, he⟩, hi, ne⟩ k
    exact ⟨⟨old, k e (by simp) _ he⟩, hi.at fun o q => k it (by simp) o q, ne⟩
  · rintro X rfl rfl rfl hc i pins s σ H E I hf ⟨⟨old, he⟩, hi, ne⟩ ⟨xs, x, hq, hx⟩
    obtain ⟨its, rv, p, hz⟩ := I.tuple hq
    have ht : s.heap.IsTuple a its.toArray := p
    obtain ⟨u, hu, ru⟩ := rv.get hx
    obtain ⟨ae, ai⟩ := apart he hi ht
    have lt : i < its.toArray.size := by
      have := (List.getElem?_eq_some_iff.mp hu).1
      simpa using this
    have le : e < s.heap.objs.size := Heap.lt_size he
    have li : it < s.heap.objs.size := by
      obtain ⟨o, ho, _⟩ := hi
      exact Heap.lt_size ho
    refine wpAny_pyNext_enum_itemD (Draws.tuple (prog := X.prog) (w := X.w) (A := X.A.in1) (I.ok.hd hc) it a ai its.toArray) he ⟨hi, ht⟩ lt ne (by simp [ne, Ne.symm ae]) fun y h' tk hy ho st' hT hsz hk => ?_
    have ey : y = u := by
      have e1 : its.toArray[i]? = some u := by simpa using hu
      rw [e1] at hy
      exact (Option.some.inj hy).symm
    subst ey
    refine ⟨_, rfl, wpAny_letOwnedTupleGo_enum (s := { s with heap := h', toks := tk + 1 }) ho fun h2 he2 sb => ?_⟩
    have hT2 := (sb.2 _ (Nat.ne_of_gt le)).trans hT
    have I1 : Inv X pins σ (upd H s.heap.objs.size (.tup [.int (i : Nat), x])) { s with heap := h2, toks := tk + 1 } :=
      I.turnedNew (ch := [e, it]) (fun b ob hb q => (sb.2 b fun z => hb ((two b).mpr (.inl z))).trans (hk b ob (fun z => hb ((two b).mpr (.inl z))) (fun z => hb ((two b).mpr (.inr z))) q)) hf (Nat.le_refl _)
        ⟨by show 2 ≤ sizeLine; decide, [.int i tk, y], .cons ⟨_, rfl⟩ (.cons ru .nil), ⟨_, hT2, rfl, _, rfl⟩⟩
    refine ⟨.ref s.heap.objs.size, _, I1, rfl, ⟨_, x, rfl, I.hok.fresh (Nat.le_refl _), rfl, fun ys hy => by rw [I.tuple_inj hy hq]; exact hx⟩, ⟨⟨y, ?_⟩, st'.1.at fun o q => (sb.2 it (Ne.symm ne)).trans q, ne⟩, fun b hb => ?_⟩
    · rw [Int.natCast_add]
      exact he2
    · have lb : b < s.heap.objs.size := by
        rcases (two b).mp hb with rfl | rfl
        · exact le
        · exact li
      rw [upd_ne (Nat.ne_of_lt lb)]
      exact (hf b hb).1
  · rintro X rfl rfl rfl hc i pins s σ H E I hf ⟨⟨old, he⟩, hi, ne⟩ ⟨xs, hq, hx⟩
    obtain ⟨its, rv, p, hz⟩ := I.tuple hq
    have ht : s.heap.IsTuple a its.toArray := p
    obtain ⟨ae, ai⟩ := apart he hi ht
    have hl := rv.length
    have sz : its.toArray.size = i := by simp; omega
    obtain ⟨f0, f1, f2, f3, f4, f5⟩ := hf it (by simp)
    exact wpAny_pyNext_enum_endD (Draws.tuple (prog := X.prog) (w := X.w) (A := X.A.in1) (I.ok.hd hc) it a ai its.toArray) he (by rw [sz]; exact ⟨hi, ht⟩) fun h' eb => ⟨rfl, I.turned (t' := s.toks) (fun b o hb q => eb b o hb q) f0 f1 f3 f4 f5⟩
  · rintro A i s Q E ⟨⟨old, he⟩, _⟩ h
    exact wpAny_pyIter_enum he h
def iEnumT (K : PySem.W.Frag) (ta : TA) : TI := fun σ H R => ta σ H fun vs H1 => ∃ a xs, vs = [.ref a] ∧ SqT K H1 a xs ∧ R (IteT K a) H1
open PyProof.Rows in
theorem pi_enumT {X : Cx} {e : Expr} {ta : TA} {p pos tpos : Pos} {elts : List Expr} {kk : Nat} (hg : Gl X "enumerate") (hm : X.mg "enumerate" = none) (ha : PA X [e] ta) (hs : starEach [e] X.env = [(false, eval e X.env)] := by rfl) :
    PI X (.Tuple elts kk tpos) (.Call (.Name "enumerate" p) [e] [] pos) (iEnumT X.K ta) := by
  refine ⟨fun pins s σ H R I h => Call_ (ld_blt I hg hm boot_enumerate (callWith_type1 (thn (ha.run pos pins s σ H _ I h) fun us s1 z => ?_) hs rfl))⟩
  obtain ⟨_, H1, I1, rv, a, xs, rfl, hq, q⟩ := z
  obtain _ | ⟨r, rr⟩ := rv
  cases rr
  cases r
  obtain ⟨its, _, p', _⟩ := I1.tuple hq
  refine call_enum_tuple (show s1.heap.IsTuple a its.toArray from p') fun h' he hi old => wpAny_pyIter_enum he ?_
  refine ⟨s1.heap.objs.size + 1, [s1.heap.objs.size + 1, s1.heap.objs.size], _, _, H1, rfl, I1.kept (t' := s1.toks) old, turn_enumT a _ _, ⟨⟨.none, he⟩, hi, Nat.succ_ne_self _⟩, fun b hb => ?_, q⟩
  have le : s1.heap.objs.size ≤ b := by
    have hb' : b = s1.heap.objs.size + 1 ∨ b = s1.heap.objs.size := by simpa using hb
    rcases hb' with z | z
    · rw [z]
      exact Nat.le_add_right _ _
    · rw [z]
      exact Nat.le_refl _
  exact I1.fpOk le (I1.hok.fresh le)
theorem for_enumT {K : PySem.W.Frag} {a : Addr} {xs : List V} {g : TG} {tb : TS} {D : Ends} {σ : L2.St} {H : Hp} (Pv : Nat → L2.St → Hp → Prop) (h0 : Pv 0 σ H) (hl : ∀ i σ H, Pv i σ H → SqT K H a xs)
    (hs : ∀ i x σ H T, xs[i]? = some x → Pv i σ H → H T = none → g (.ref T) σ (upd H T (.tup [.int (i : Nat), x])) fun σ2 H2 => tb { D with nx := Pv (i + 1), ct := Pv (i + 1), bk := D.nx } σ2 H2) (hd : ∀ σ H, Pv xs.length σ H → D.nx σ H) :
    ∃ W : Nat → Nat → L2.St → Hp → Prop, (∃ m, W 0 m σ H) ∧ ∀ i m σ H, W i m σ H →
      ((IteT K a).stop i H ∧ D.nx σ H) ∨ ((IteT K a).go i H ∧ ∃ N : L2.St → Hp → Prop, (∀ σ' H', N σ' H' → ∃ m', m' < m ∧ W (i + 1) m' σ' H') ∧ ∀ x H', (IteT K a).yld i H x H' → g x σ H' fun σ2 H2 => tb { D with nx := N, ct := N, bk := D.nx } σ2 H2) := by
  refine ⟨fun i m σ H => m = xs.length - i ∧ i ≤ xs.length ∧ Pv i σ H, ⟨_, rfl, Nat.zero_le _, h0⟩, ?_⟩
  rintro i m σ H ⟨rfl, le, p⟩
  have sq := hl i σ H p
  by_cases lt : i < xs.length
  · refine .inr ⟨⟨xs, xs[i], sq, List.getElem?_eq_getElem lt⟩, Pv (i + 1), fun σ' H' p' => ⟨_, by omega, rfl, lt, p'⟩, fun v H' y => ?_⟩
    obtain ⟨T, x, rfl, hT, rfl, all⟩ := y
    exact hs i x σ H T (all xs sq) p hT
  · have e : i = xs.length := by omega
    subst e
    exact .inl ⟨⟨xs, sq, rfl⟩, hd σ H p⟩
end PSE

set_option Elab.async false
set_option linter.all false
set_option maxRecDepth 100000
set_option maxHeartbeats 4000000
/-! list(reversed(a list)) -/
namespace PSV
open PySem PySem.Spec PyProof.Rows L2 RT
section
variable {prog : Program} {w : World} {A : Around} {E : Value → Shared → Prop} {s : Shared}
theorem hint_lriF {it l : Addr} {i : Int} {Q : Bool → Shared → Prop} (hit : s.heap.IsRevIter it l i) (h : Q false s) : wpAny (model prog w) A (Builtin.List.listLengthHint (.ref it)) Q E s := by
  have hT : s.TypeIs (.ref it) "list_reverseiterator" := hit.typeIs
  unfold Builtin.List.listLengthHint
  refine wpAny_bind (wpAny_specialOf hT nolen_lri ?_)
  show wpAny _ A (specialOf (Value.ref it) (Str.ofString "__length_hint__") >>= _) _ _ _
  refine wpAny_bind (wpAny_specialOf hT hint_lri ?_)
  generalize hid : ("list_reverseiterator.__length_hint__" : String) = id0
  wp_delta
  rw [show splitId id0 = some ("list_reverseiterator", "__length_hint__") from by subst hid; decide +kernel]
  subst hid
  refine wpAny_bind (wpAny_isInstance (b := true) hT (by rw [isSubtype_type]; kernel_rfl) ?_)
  exact wpAny_pure h
theorem ext_rev {R : Result → Shared → Prop} {it l : Addr} {items : Array Value} (hh : A.handled = none) (hit : s.heap.IsRevIter it l ((items.size : Int) - 1)) (hl : s.heap.IsList l items) (hne : l ≠ it) (hn : items.size ≤ sizeLine) (S : Addr) (hSi : S ≠ it) (hSl : S ≠ l) (res : Value) (c₀ : Nat) (hS : s.heap.get? S = some { cls := .type "list", data := .seq #[] c₀ })
    (hR : ∀ h' tk acc' c', (∀ b o, b ≠ S → b ≠ it → s.heap.get? b = some o → h'.get? b = some o) → h'.get? S = some { cls := .type "list", dict := none, data := .seq acc' c', slots := #[] } → ItemsOf (fun i v => items[items.size - 1 - i]? = some v) acc' items.size → R (.ok (.ret res)) { s with heap := h', toks := tk }) :
    wpAny (model prog w) A.in1 (Builtin.List.listExtendWith (.ref S) (.ref it) res)
      (fun fin s' => match fin with | .done f => R (.ok f) s' | .again c' => c'.quiet = true ∧ codeAny (model prog w) A c' R s') (fun e s' => R (.error e) s') s := by
  have W := (Walks.listRev (prog := prog) (w := w) (A := A.in1) hh it l hne items).toS
  have hSf : S ∉ [it, l] := by simp only [List.mem_cons, List.not_mem_nil, or_false, not_or]; exact ⟨hSi, hSl⟩
  have hT : s.TypeIs (.ref it) "list_reverseiterator" := hit.typeIs
  have h1 : Builtin.List.listSameRef (.ref S) (.ref it) = false := by simp [Builtin.List.listSameRef, hSi]
  unfold Builtin.List.listExtendWith
  refine wpAny_bind (wpAny_typeOf hT ?_)
  rw [if_neg (by rw [h1]; decide)]
  refine wpAny_bind (wpAny_pyIter_revIter hit ?_)
  refine wpAny_bind (wpAny_holding (hint_lriF hit ?_))
  rw [if_neg (by decide)]
  have e0 : ((items.size : Nat) : Int) - 1 - ((0 : Nat) : Int) = (items.size : Int) - 1 := by omega
  refine wpAny_pure ⟨plainId_quiet PySem.F.plain_extend_loop _, codeAny_extend_loopS W hn _ hSf _ items.size 0 _ _ _ rfl (Nat.zero_le _) ⟨Nat.zero_le _, by rw [e0]; exact hit, hl⟩ hS (ItemsOf.nil _) fun s' acc' c' hm hS' hacc => ?_⟩
  rw [Moved.eq_with hm]
  refine hR s'.heap s'.toks acc' c' (fun b o hb hb2 e => hm.heap b o (fun hmem => ?_) e) hS' hacc
  rcases List.mem_cons.mp hmem with e' | hmem
  · exact hb e'
  · exact hb2 (List.mem_singleton.mp hmem)
theorem init_rev {R : Result → Shared → Prop} {it l : Addr} {items : Array Value} (hh : A.handled = none) (hit : s.heap.IsRevIter it l ((items.size : Int) - 1)) (hl : s.heap.IsList l items) (hne : l ≠ it) (hn : items.size ≤ sizeLine) (S : Addr) (hSi : S ≠ it) (hSl : S ≠ l) (hS : s.heap.get? S = some { cls := .type "list", data := .seq #[] })
    (hR : ∀ h' tk acc' c', (∀ b o, b ≠ S → b ≠ it → s.heap.get? b = some o → h'.get? b = some o) → h'.get? S = some { cls := .type "list", dict := none, data := .seq acc' c', slots := #[] } → ItemsOf (fun i v => items[items.size - 1 - i]? = some v) acc' items.size → R (.ok (.ret .none)) { s with heap := h', toks := tk }) :
    wpAny (model prog w) A.in1 (Builtin.«list.__init__» ⟨[.ref S, .ref it], []⟩)
      (fun fin s' => match fin with | .done f => R (.ok f) s' | .again c' => c'.quiet = true ∧ codeAny (model prog w) A c' R s') (fun e s' => R (.error e) s') s := by
  show wpAny _ _ (do let old ← Builtin.List.listItems (.ref S); Builtin.List.listUpdate (.ref S) (fun _ => #[]); letGo old.toList.reverse; Builtin.List.listExtendWith (.ref S) (.ref it) .none) _ _ s
  refine wpAny_bind ?_
  unfold Builtin.List.listItems
  refine wpAny_bind (wpAny_seqItems hS rfl (wpAny_pure ?_))
  show wpAny _ _ (updateSeq S (fun _ => #[]) >>= fun _ => letGo (#[] : Array Value).toList.reverse >>= fun _ => Builtin.List.listExtendWith (.ref S) (.ref it) .none) _ _ s
  refine wpAny_bind (wpAny_updateSeq hS rfl ?_)
  have hS₂ := Heap.get?_update_self (Obj.mapSeq (fun _ => (#[] : Array Value))) hS rfl
  have oth : ∀ b o, b ≠ S → s.heap.get? b = some o → (s.heap.update S (Obj.mapSeq (fun _ => (#[] : Array Value)))).get? b = some o :=
    fun b o hb e => (Heap.get?_update_other _ _ (Ne.symm hb)).trans e
  refine wpAny_bind (wpAny_letGo ?_)
  have hl2 : (s.heap.update S (Obj.mapSeq (fun _ => (#[] : Array Value)))).IsList l items := by
    obtain ⟨o, e, r⟩ := hl
    exact ⟨o, oth _ _ hSl.symm e, r⟩
  refine ext_rev hh (hit.at fun o e => oth _ _ hSi.symm e) hl2 hne hn S hSi hSl .none _ hS₂ (fun h' tk acc' c' hk hS' hacc => ?_)
  exact hR h' tk acc' c' (fun b o hb hb2 e => hk b o hb hb2 (oth b o hb e)) hS' hacc
theorem call_list_rev {it l : Addr} {items : Array Value} {Q : Value → Shared → Prop} (hh : A.handled = none) (hit : s.heap.IsRevIter it l ((items.size : Int) - 1)) (hl : s.heap.IsList l items) (hne : l ≠ it) (hn : items.size ≤ sizeLine)
    (hQ : ∀ h' tk acc' c', (∀ b o, b ∉ [it] → s.heap.get? b = some o → h'.get? b = some o) → h'.get? s.heap.objs.size = some { cls := .type "list", dict := none, data := .seq acc' c', slots := #[] } → ItemsOf (fun i v => items[items.size - 1 - i]? = some v) acc' items.size → Q (.ref s.heap.objs.size) { s with heap := h', toks := tk }) :
    wpAny (model prog w) A (call (.type "list") [.ref it]) Q E s := by
  refine callType_codes (Q₁ := fun obj s₁ => obj = .ref s.heap.objs.size ∧ s₁ = { s with heap := s.heap.push { cls := .type "list", data := .seq #[] } }) PySem.F.called_list (PySem.F.typeCall_list_1 _) PySem.F.entry_list_init
    (code_list_new _ ⟨rfl, rfl⟩) fun obj s₁ h₁ => ?_
  obtain ⟨rfl, rfl⟩ := h₁
  have hS : (s.heap.push { cls := .type "list", data := .seq #[] }).get? s.heap.objs.size = some { cls := .type "list", data := .seq #[] } := Heap.get?_push_size _ rfl
  obtain ⟨oi, hoi, _⟩ := id hit
  obtain ⟨ol, hol, _⟩ := id hl
  refine ⟨⟨_, hS, rfl⟩, PySem.F.args_list_init_2 _ _, init_rev (A := A.in1) hh (hit.at fun o e => Heap.get?_push_of_some _ e) (hl.push _) hne hn _ (Nat.ne_of_gt (Heap.lt_size hoi)) (Nat.ne_of_gt (Heap.lt_size hol)) hS (fun h' tk acc' c' hk hS' hacc => ?_)⟩
  exact ⟨rfl, hQ h' tk acc' c' (fun b o hb e => hk b o (Nat.ne_of_lt (Heap.lt_size e)) (fun z => hb (by rw [z]; exact List.mem_singleton.mpr rfl)) (Heap.get?_push_of_some _ e)) hS' hacc⟩
end
/-- list(reversed(x)), x a list: a new list -/
def tLstRev (K : PySem.W.Frag) (te : TE) : TE := fun σ H Q => te σ H fun v H1 => ∃ (a : Addr) (xs : List V), v = .ref a ∧ SqL K H1 a xs ∧ ∀ q, H1 q = none → Q (.ref q) (upd H1 q (.lst xs.reverse))
section
variable {X : Cx}
theorem pe_lstRev {e : Expr} {te : TE} {p p2 pos pos2 : Pos} (hc : X.calm = true) (hg : Gl X "list") (hm : X.mg "list" = none) (hg2 : Gl X "reversed") (hm2 : X.mg "reversed" = none) (he : PE X e te)
    (hs : starEach [e] X.env = (false, eval e X.env) :: starEach [] X.env := by rfl)
    (hs2 : starEach [.Call (.Name "reversed" p2) [e] [] pos2] X.env = (false, eval (.Call (.Name "reversed" p2) [e] [] pos2) X.env) :: starEach [] X.env := by rfl) :
    PE X (.Call (.Name "list" p) [.Call (.Name "reversed" p2) [e] [] pos2] [] pos) (tLstRev X.K te) := by
  refine ⟨fun pins s σ H Q I h => ?_⟩
  refine Call_ (ld_blt I hg hm boot_list (PyProof.Rows.callWith_type1 (args_cons (Call_ (ld_blt I hg2 hm2 PyProof.Rows.boot_reversed (PyProof.Rows.callWith_type1 (args_cons (thn (he.run pins s σ H _ I h) fun u s1 ⟨v, H1, I1, r1, q1⟩ => args_nil ?_) hs) hs rfl))) hs2) hs2 rfl))
  obtain ⟨a, xs, ev, hq, q⟩ := q1
  subst ev
  obtain rfl : u = Value.ref a := r1
  obtain ⟨its, rv, p', hz⟩ := I1.list hq
  refine call_reversed_list p'.isList (args_nil ?_)
  have k0 : ∀ b o, s1.heap.get? b = some o → (s1.heap.push (revObj a ((its.toArray.size : Int) - 1))).get? b = some o := fun b o e => Heap.get?_push_of_some _ e
  have I2 : Inv X pins σ H1 { s1 with heap := s1.heap.push (revObj a ((its.toArray.size : Int) - 1)) } := I1.kept (t' := s1.toks) k0
  have fp := I1.fpOk (H' := H1) (b := s1.heap.objs.size) (Nat.le_refl _) (I1.hok.fresh (Nat.le_refl _))
  have hl := p'.isList
  obtain ⟨ol, hol, _⟩ := id hl
  have hne : a ≠ s1.heap.objs.size := Nat.ne_of_lt (Heap.lt_size hol)
  have hn : its.toArray.size ≤ sizeLine := by rw [List.size_toArray, ← rv.length]; exact hz
  refine call_list_rev (s := { s1 with heap := s1.heap.push (revObj a ((its.toArray.size : Int) - 1)) }) (I1.ok.hd hc) ⟨_, Heap.get?_push_size _ rfl, rfl, rfl⟩ (hl.push _) hne hn fun h' tk acc c hk hT hi => ?_
  have hsz : s1.heap.objs.size ≤ (s1.heap.push (revObj a ((its.toArray.size : Int) - 1))).objs.size := by rw [PyProof.Rows.size_push']; exact Nat.le_succ _
  have hn2 : H1 (s1.heap.push (revObj a ((its.toArray.size : Int) - 1))).objs.size = none := I1.hok.fresh hsz
  refine ⟨.ref (s1.heap.push (revObj a ((its.toArray.size : Int) - 1))).objs.size, upd H1 _ (.lst xs.reverse), I2.turnedNew (t' := tk) hk (fun b hb => ?_) (Nat.le_refl _) ⟨by rw [List.length_reverse]; exact hz, acc.toList, c, vals_rev rv hi, ?_⟩, rfl, q _ hn2⟩
  · have e : b = s1.heap.objs.size := by simpa using hb
    subst e
    exact fp
  · rw [Array.toArray_toList]
    exact hT
end
end PSV

set_option Elab.async false
set_option linter.all false
set_option maxRecDepth 100000
set_option maxHeartbeats 8000000
namespace K18
open PySem PySem.Spec L2 PSG PSS
open PyProof.Rows (IntsAre AllBare)
def topS (i : Nat) : Stmt := PySem.Challenge.pw_pairsigns_k18_whole_orders_sort_rows.main.body.getD i (.Pass ⟨0, 0, 0, 0⟩)
abbrev s__law_pot : Stmt := topS 29
theorem sc__law_pot : FnScope ["_law_script", "_law_k", "_law_cell"] ["_law_script", "_law_k"] (defScope s__law_pot) := ⟨rfl, rfl, rfl, by decide +kernel, rfl, by decide +kernel, by decide +kernel⟩
abbrev s__law_draw : Stmt := topS 30
theorem sc__law_draw : FnScope ["_law_pot_here", "_law_many", "_law_digit"] ["_law_pot_here", "_law_many"] (defScope s__law_draw) := ⟨rfl, rfl, rfl, by decide +kernel, rfl, by decide +kernel, by decide +kernel⟩
abbrev s__law_word : Stmt := topS 32
theorem sc__law_word : FnScope ["_law_pot_here", "_law_most", "_law_letters", "_law_turn"] ["_law_pot_here", "_law_most"] (defScope s__law_word) := ⟨rfl, rfl, rfl, by decide +kernel, rfl, by decide +kernel, by decide +kernel⟩
abbrev s__law_column : Stmt := topS 33
theorem sc__law_column : FnScope ["_law_pot_here", "_law_way", "_law_word_here"] ["_law_pot_here"] (defScope s__law_column) := ⟨rfl, rfl, rfl, by decide +kernel, rfl, by decide +kernel, by decide +kernel⟩
structure Blt (mg : Str → Option Value) : Prop where
  n_len : mg "len" = none
  n_max : mg "max" = none
  n_min : mg "min" = none
  n_abs : mg "abs" = none
  n_int : mg "int" = none
  n_divmod : mg "divmod" = none
  n_range : mg "range" = none
  n_isinstance : mg "isinstance" = none
  n_repr : mg "repr" = none
  n_all : mg "all" = none
  n_bool : mg "bool" = none
  n_str : mg "str" = none
  n_set : mg "set" = none
  n_sorted : mg "sorted" = none
  n_enumerate : mg "enumerate" = none
  n_zip : mg "zip" = none
  n_reversed : mg "reversed" = none
  n_dict : mg "dict" = none
  n_list : mg "list" = none
  n_tuple : mg "tuple" = none
def Pt (H : Hp) (r : Addr) : Prop := ∃ x y : Int, H r = some (.lst [.int x, .int y]) ∧ 0 ≤ x ∧ 0 ≤ y ∧ y < 2147483700
theorem Pt.some {H : Hp} {r : Addr} (g : Pt H r) : ∃ o, H r = some o := by
  obtain ⟨x, y, e, _⟩ := g
  exact ⟨_, e⟩
theorem Pt.new {H : Hp} {r p : Addr} {o : HO} (g : Pt H r) (h : H p = none) : Pt (upd H p o) r := by
  obtain ⟨x, y, e, z⟩ := g
  exact ⟨x, y, (upd_ne (ne_of_none e h)).trans e, z⟩
theorem Pt.same {H H' : Hp} {r : Addr} (g : Pt H r) (s : Same H H') : Pt H' r := by
  obtain ⟨x, y, e, z⟩ := g
  exact ⟨x, y, s _ _ e, z⟩
theorem Pt.put {H : Hp} {r p : Addr} {o : HO} (g : Pt H r) (n : p ≠ r) : Pt (upd H p o) r := by
  obtain ⟨x, y, e, z⟩ := g
  exact ⟨x, y, (upd_ne (Ne.symm n)).trans e, z⟩
theorem Pt.off {H : Hp} {r p : Addr} (g : Pt H r) (h : H p = none) : p ≠ r := fun z => by
  obtain ⟨o, e⟩ := g.some
  rw [z, e] at h
  cases h
theorem pylong_no {i j : Int} (h0 : 0 < j) (h : j < 2 ^ 200) : CDivP i j := by
  refine ⟨h0, ?_⟩
  have lg : j.natAbs.log2 < 200 := PySem.Flt.log2_lt_of (by decide) (by omega)
  unfold Builtin.divisionGoesByPylong
  have small : ¬ (300 < if (j == 0) = true then 0 else j.natAbs.log2 / 30 + 1) := by split <;> omega
  exact Bool.and_eq_false_iff.mpr (.inl (decide_eq_false small))
section
variable {P : Program} {w : World} {K : PySem.W.Frag} {mg : Str → Option Value} {base : Heap}
def spPot (K : PySem.W.Frag) : Sp := fun vs H Q _ => ∃ (a : Addr) (ns : List Int) (k : Nat), vs = [.ref a, .int k] ∧ SqL K H a (ns.map V.int) ∧ k ≤ 1000 ∧ ∀ p x y, H p = none → (0 : Int) ≤ x → 0 ≤ y → y < 2147483700 → Q (.ref p) (upd H p (.lst [.int x, .int y]))
theorem ok_pot {f : Addr} {fd : FuncData} (F : Fun K "_law_pot" "_law_pot" s__law_pot f fd) (T : Blt mg) : FnOk P w K mg base CX0 1 f fd ["_law_script", "_law_k"] (spPot K) := by
  have sc := sc__law_pot
  refine F.ok sc (fun vs H Q E h => ?_) (fun cdv A outer s H vs Q E hr h => ?_)
  · obtain ⟨a, ns, k, rfl, _⟩ := h
    rfl
  · obtain ⟨a, ns, k, rfl, hS, hk, q⟩ := h
    refine ⟨_, (pss_cons (ps_set (i := 2) sc.nd rfl (.inl rfl) (pe_ifExp (pt_cmpR op_lt (pv 1) (pe_callB call_len_seq (by rfl) T.n_len PySem.boot_len (pa_cons (pv 0) pa_nil)) (nomark _)) (pe_ix ix_list (pv 0) (pv 1) (fun _ _ => rfl)) pe_int))
      (pss_one (ps_ret (pe_lst (pa_cons (pe_callB (call_max2 rfl) (by rfl) T.n_max (by decide +kernel) (pa_cons pe_int (pa_cons (pe_op op_sub (pe_callB call_abs (by rfl) T.n_abs (by decide +kernel) (pa_cons (pv 2) pa_nil)) (pe_op op_pow pe_int pe_int)) pa_nil))) (pa_cons (pe_op op_add (pe_op op_mod (pe_callTy call_int1 (by rfl) T.n_int (by decide +kernel) (pa_cons (pe_op op_add (pe_op op_add (pe_op op_mul (pe_op op_mod (pe_callTy call_int1 (by rfl) T.n_int (by decide +kernel) (pa_cons (pe_callB call_abs (by rfl) T.n_abs (by decide +kernel) (pa_cons (pv 2) pa_nil)) pa_nil)) pe_int) pe_int) (pe_op op_mul pe_int (pv 1))) pe_int) pa_nil)) pe_int) pe_int) pa_nil)))))), ?_⟩
    have rest : ∀ c : Int, ∃ x y : Int, True := fun c => ⟨0, 0, trivial⟩
    refine ⟨_, rfl, _, rfl, a, _, rfl, .inl hS, _, _, rfl, rfl, _, rfl, ite2 (fun e => ?_) (fun e => ?_)⟩
    · have lt : k < (ns.map V.int).length := by
        have e1 := of_decide_eq_true e
        omega
      rw [List.length_map] at lt
      have at_ : (ns.map V.int)[k]? = some (.int ns[k]) := by
        rw [List.getElem?_map, List.getElem?_eq_getElem lt]
        rfl
      refine ⟨_, rfl, _, rfl, a, _, _, _, rfl, rfl, hS, atI_nat at_, ?_⟩
      refine ⟨_, rfl, _, rfl, _, _, rfl, rfl, ⟨by decide, by decide, by decide⟩, _, _, rfl, rfl, _, _, rfl, _, rfl, _, rfl, .inl ⟨_, rfl, _, _, rfl, rfl, (by show (0 : Int) < _; decide), _, _, rfl, rfl, .inr ⟨by decide, by decide⟩, _, rfl, _, _, rfl, rfl, .inl ⟨by decide, by decide⟩, _, _, rfl, rfl, _, _, rfl, rfl, .inl ⟨_, rfl, _, _, rfl, rfl, (by show (0 : Int) < _; decide), _, _, rfl, rfl, (by show 2 ≤ sizeLine; decide), fun p hp => ?_⟩⟩⟩
      exact q p _ _ hp (by split <;> omega) (by omega) (by omega)
    · refine ⟨_, rfl, _, rfl, _, _, rfl, rfl, ⟨by decide, by decide, by decide⟩, _, _, rfl, rfl, _, _, rfl, _, rfl, _, rfl, .inl ⟨_, rfl, _, _, rfl, rfl, (by show (0 : Int) < _; decide), _, _, rfl, rfl, .inr ⟨by decide, by decide⟩, _, rfl, _, _, rfl, rfl, .inl ⟨by decide, by decide⟩, _, _, rfl, rfl, _, _, rfl, rfl, .inl ⟨_, rfl, _, _, rfl, rfl, (by show (0 : Int) < _; decide), _, _, rfl, rfl, (by show 2 ≤ sizeLine; decide), fun p hp => ?_⟩⟩⟩
      exact q p _ _ hp (by split <;> omega) (by omega) (by omega)
def nx (y : Int) : Int := (y * 39373 + 12227) % 2147483629
theorem nx_lo (y : Int) : 0 ≤ nx y := Int.emod_nonneg _ (by decide)
theorem nx_hi (y : Int) : nx y < 2147483629 := Int.emod_lt_of_pos _ (by decide)
/-- a draw below m -/
def spDraw : Sp := fun vs H Q _ => ∃ (r : Addr) (m : Int), vs = [.ref r, .int m] ∧ Pt H r ∧ 0 < m ∧ m < 2 ^ 200 ∧ ∀ d H', (0 : Int) ≤ d → d < m → Pt H' r → But r H H' → Q (.int d) H'
theorem ok_draw {f : Addr} {fd : FuncData} (F : Fun K "_law_draw" "_law_draw" s__law_draw f fd) (T : Blt mg) : FnOk P w K mg base CX0 1 f fd ["_law_pot_here", "_law_many"] spDraw := by
  have sc := sc__law_draw
  refine F.ok sc (fun vs H Q E h => ?_) (fun cdv A outer s H vs Q E hr h => ?_)
  · obtain ⟨r, m, rfl, _⟩ := h
    rfl
  · obtain ⟨r, m, rfl, ⟨x, y, hR, hx, hy, hy2⟩, hm, hm2, q⟩ := h
    have hS : SqL K H r [.int x, .int y] := SqL.of hR
    refine ⟨_, (pss_cons (ps_if (pt_cmpR op_gt (pe_ix ix_list (pv 0) pe_int (fun _ _ => rfl)) pe_int (nomark _)) (pss_cons (ps_asg (pe_callB call_divmodW (by rfl) T.n_divmod (by decide +kernel) (pa_cons (pe_ix ix_list (pv 0) pe_int (fun _ _ => rfl)) (pa_cons (pv 1) pa_nil))) (pg_tup (by rfl) (pgs_cons (pg_sub (pv 0) pe_int set_list) (pgs_cons (pg_name (i := 2) sc.nd rfl (.inl rfl)) pgs_nil))))
      (pss_one (ps_ret (pv 2)))) pss_nil)
      (pss_cons (ps_asg (pe_op op_mod (pe_callTy call_int1 (by rfl) T.n_int (by decide +kernel) (pa_cons (pe_op op_add (pe_op op_mul (pe_ix ix_list (pv 0) pe_int (fun _ _ => rfl)) pe_int) pe_int) pa_nil)) pe_int) (pg_sub (pv 0) pe_int set_list))
      (pss_one (ps_ret (pe_op op_mod (pe_callTy call_int1 (by rfl) T.n_int (by decide +kernel) (pa_cons (pe_op op_fdiv (pe_op op_mod (pe_callTy call_int1 (by rfl) T.n_int (by decide +kernel) (pa_cons (pe_op op_mul (pe_ix ix_list (pv 0) pe_int (fun _ _ => rfl)) (pe_ix ix_list (pv 0) pe_int (fun _ _ => rfl))) pa_nil)) pe_int) pe_int) pa_nil)) (pv 1)))))), ?_⟩
    refine ⟨_, rfl, _, _, _, _, rfl, rfl, hS, atI_nat (j := 0) rfl, _, _, rfl, rfl, _, rfl, ite2 (fun e => ?_) (fun e => ?_)⟩
    · refine ⟨_, rfl, _, _, _, _, rfl, rfl, hS, atI_nat (j := 0) rfl, _, rfl, _, _, rfl, pylong_no hm hm2, fun p hp => ?_⟩
      have npr : r ≠ p := ne_of_none hR hp
      refine ⟨p, _, rfl, .inl (.inl upd_same), rfl, _, _, rfl, _, rfl, r, _, _, 0, rfl, rfl, (upd_ne npr).trans hR, rfl, _, _, rfl, rfl, ?_⟩
      refine ⟨_, rfl, q _ _ (Int.emod_nonneg _ (by omega)) (Int.emod_lt_of_pos _ hm) ⟨_, _, upd_same, Int.ediv_nonneg hx (by omega), hy, hy2⟩ ((But.of (same_new hp)).trans But.at)⟩
    · refine ⟨_, rfl, _, _, _, _, rfl, rfl, hS, atI_nat (j := 1) rfl, _, _, rfl, rfl, .inr ⟨by decide, by decide⟩, _, _, rfl, rfl, .inl ⟨_, rfl, _, _, rfl, rfl, (by show (0 : Int) < _; decide), _, rfl, r, _, _, 1, rfl, rfl, hR, rfl, ?_⟩⟩
      have hR1 : (upd H r (.lst [.int x, .int (nx y)])) r = some (.lst [.int x, .int (nx y)]) := upd_same
      have hS1 : SqL K (upd H r (.lst [.int x, .int (nx y)])) r [.int x, .int (nx y)] := SqL.of hR1
      have hz0 := nx_lo y
      have hz1 := nx_hi y
      refine ⟨_, rfl, _, _, _, _, rfl, rfl, hS1, atI_nat (j := 1) rfl, _, rfl, _, _, _, _, rfl, rfl, hS1, atI_nat (j := 1) rfl, _, _, rfl, rfl, .inl ⟨by omega, by omega⟩, .inl ⟨_, rfl, _, _, rfl, rfl, (by show (0 : Int) < _; decide), _, _, rfl, rfl, ⟨by decide, by decide⟩, .inl ⟨_, rfl, _, rfl, _, _, rfl, rfl, hm, ?_⟩⟩⟩
      exact q _ _ (Int.emod_nonneg _ (by omega)) (Int.emod_lt_of_pos _ hm) ⟨_, _, hR1, hx, hz0, by omega⟩ But.at
end
end K18

set_option Elab.async false
set_option linter.all false
set_option maxRecDepth 100000
set_option maxHeartbeats 8000000
namespace K18
open PySem PySem.Spec L2 PSG PSS
open PyProof.Rows (IntsAre AllBare)

def abc : Str := "abcdefghijklmnopqrstuvwxyz"
def lets (x : Str) : List Bool := x.cps.toList.map fun c => decide (c ∈ abc.cps.toList)
def allLet (x : Str) : Bool := (lets x).all id
theorem let_mem {x : Str} : allLet x = true ↔ ∀ c ∈ x.cps.toList, c ∈ abc.cps.toList := by
  unfold allLet lets
  rw [List.all_map, List.all_eq_true]
  simp
theorem app_mem {x y : Str} {c : Nat} (h : c ∈ (x ++ y).cps.toList) : c ∈ x.cps.toList ∨ c ∈ y.cps.toList := by
  have e : (x ++ y).cps = x.cps ++ y.cps := rfl
  rw [e, Array.toList_append] at h
  exact List.mem_append.mp h
theorem app_len (x y : Str) : (x ++ y).length = x.length + y.length := by
  show (x.cps ++ y.cps).size = x.cps.size + y.cps.size
  exact Array.size_append
theorem let_app {x y : Str} (h : allLet x = true) (k : allLet y = true) : allLet (x ++ y) = true := let_mem.mpr fun c hc => (app_mem hc).elim (let_mem.mp h c) (let_mem.mp k c)
/-- letters one by one, put together -/
theorem join_ones : ∀ ys : List Str, (∀ y ∈ ys, allLet y = true ∧ y.length = 1) → allLet (Str.join "" ys) = true ∧ (Str.join "" ys).length = ys.length
  | [], _ => ⟨by decide +kernel, rfl⟩
  | [y], h => ⟨(h y List.mem_cons_self).1, (h y List.mem_cons_self).2⟩
  | x :: y :: r, h => by
    have ih := join_ones (y :: r) fun z m => h z (List.mem_cons_of_mem _ m)
    have hx := h x List.mem_cons_self
    have e : Str.join "" (x :: y :: r) = x ++ "" ++ Str.join "" (y :: r) := rfl
    rw [e]
    have e0 : ("" : Str).length = 0 := rfl
    refine ⟨let_app (let_app hx.1 (by decide +kernel)) ih.1, ?_⟩
    rw [app_len, app_len, hx.2, e0, ih.2]
    simp only [List.length_cons]
    omega
theorem ones_sum : ∀ ys : List Str, (∀ y ∈ ys, allLet y = true ∧ y.length = 1) → (ys.map (·.length)).sum = ys.length
  | [], _ => rfl
  | y :: r, h => by
    rw [List.map_cons, List.sum_cons, ones_sum r fun z m => h z (List.mem_cons_of_mem _ m), (h y List.mem_cons_self).2, List.length_cons]
    omega
/-- a column's name as the program accepts it, by its parts -/
structure Col (x : Str) : Prop where
  ne : x ≠ "none"
  lo : 1 ≤ x.length
  hi : x.length ≤ 17
  parts : ∃ ps : List Str, ps ≠ [] ∧ ps.length ≤ 2 ∧ (∀ p ∈ ps, p ≠ "" ∧ allLet p = true) ∧ Txt.join "." ps = x
theorem col_word {x : Str} (h : allLet x = true) (n : x ≠ "none") (l1 : 1 ≤ x.length) (l2 : x.length ≤ 17) : Col x := ⟨n, l1, l2, [x], by simp, by simp, fun p m => by
  rw [List.mem_singleton.mp m]
  exact ⟨fun e => by rw [e] at l1; exact absurd l1 (by decide), h⟩, by rw [TL.join_eq]; rfl⟩
theorem col_two {x y : Str} (h : allLet x = true) (k : allLet y = true) (l1 : 1 ≤ x.length) (l2 : x.length ≤ 8) (m1 : 1 ≤ y.length) (m2 : y.length ≤ 8) : Col (x ++ "." ++ y) := by
  have e1 : ("." : Str).length = 1 := rfl
  have l : (x ++ "." ++ y).length = x.length + 1 + y.length := by rw [app_len, app_len, e1]
  refine ⟨fun e => ?_, by omega, by omega, [x, y], by simp, by simp, fun p m => ?_, by rw [TL.join_eq]; rfl⟩
  · have d : 46 ∈ (x ++ "." ++ y).cps.toList := by
      have a1 : (x ++ "." ++ y).cps.toList = x.cps.toList ++ ("." : Str).cps.toList ++ y.cps.toList := by
        show ((x.cps ++ ("." : Str).cps) ++ y.cps).toList = _
        rw [Array.toList_append, Array.toList_append]
      rw [a1]
      exact List.mem_append_left _ (List.mem_append_right _ (by decide))
    rw [e] at d
    exact absurd d (by decide)
  · simp only [List.mem_cons, List.not_mem_nil, or_false] at m
    rcases m with rfl | rfl
    · exact ⟨fun e => by rw [e] at l1; exact absurd l1 (by decide), h⟩
    · exact ⟨fun e => by rw [e] at m1; exact absurd m1 (by decide), k⟩
section
variable {P : Program} {w : World} {K : PySem.W.Frag} {mg : Str → Option Value} {base : Heap}
def spWord : Sp := fun vs H Q _ => ∃ (r : Addr) (m : Int), vs = [.ref r, .int m] ∧ Pt H r ∧ 1 ≤ m ∧ m ≤ 17 ∧ ∀ y H', allLet y = true → 1 ≤ y.length → (y.length : Int) ≤ m → Pt H' r → But r H H' → Q (.str y) H'
theorem ok_word {f f1 : Addr} {fd d1 : FuncData} (F : Fun K "_law_word" "_law_word" s__law_word f fd) (T : Blt mg) (F__law_draw : Fun K "_law_draw" "_law_draw" s__law_draw f1 d1) (b__law_draw : Binds K d1 ["_law_pot_here", "_law_many"] []) (g__law_draw : mg "_law_draw" = some (.ref f1)) :
    FnOk P w K mg base CX0 2 f fd ["_law_pot_here", "_law_most"] spWord := by
  have sc := sc__law_word
  have G__law_draw : FnOk P w K mg base CX0 1 f1 d1 _ spDraw := ok_draw F__law_draw T
  refine F.ok sc (fun vs H Q E h => ?_) (fun cdv A outer s H vs Q E hr h => ?_)
  · obtain ⟨r, m, rfl, _⟩ := h
    rfl
  · obtain ⟨r, m, rfl, hR, m1, m2, q⟩ := h
    have two200 : (2 : Int) ^ 200 = 1606938044258990275541962092341162602522202993782792835301376 := by decide +kernel
    have lA : abc.length = 26 := by decide +kernel
    have lA2 : abc.cps.toList.length = 26 := by decide +kernel
    have letter : ∀ c : Int, 0 ≤ c → c < 26 → ∃ z, atI abc.cps.toList c = some z ∧ z ∈ abc.cps.toList := fun c c0 c1 => by
      obtain ⟨k, rfl⟩ := Int.eq_ofNat_of_zero_le c0
      have lt : k < abc.cps.toList.length := by omega
      exact ⟨_, atI_nat (List.getElem?_eq_getElem lt), List.getElem_mem lt⟩
    refine ⟨_, (pss_cons (ps_set (i := 2) sc.nd rfl (.inr rfl) pe_str)
      (pss_one (ps_ret (pe_join pe_str (pe_lc (own := [("_law_turn", 3)]) (g := gName 3) (tt := tYes) (by rfl) sc.nd (pi_range1 (by rfl) T.n_range (pa_cons (pe_op op_add pe_int (pe_call G__law_draw (hr.mono (by decide)) (by rfl) g__law_draw F__law_draw.kp b__law_draw .nil pass0 (pa_cons (pv 0) (pa_cons (pv 1) pa_nil)))) pa_nil)) (blkOk_by (own := [("_law_turn", 3)]) (N := ["_law_pot_here", "_law_most", "_law_letters", "_law_turn"]) (sc := defScope s__law_word) (by decide +kernel)) (fun _ _ _ _ _ => pg_name (i := 3) sc.nd rfl (Or.inl rfl)) (fun _ _ _ _ _ => pts_nil) (fun _ _ _ _ _ => (pe_ix ix_str (pv 2) (pe_call G__law_draw (hr.mono (by decide)) (by rfl) g__law_draw F__law_draw.kp b__law_draw .nil pass0 (pa_cons (pv 0) (pa_cons pe_int pa_nil))) (fun _ _ => rfl)))))))), ?_⟩
    refine ⟨⟨_, rfl⟩, _, rfl, _, rfl, r, m, rfl, hR, by omega, by rw [two200]; omega, fun n H4 n0 n1 g4 b4 => ⟨_, _, rfl, rfl, _, rfl, by omega, by omega, fun D hD => ?_⟩⟩
    have nDr := g4.off hD
    refine w_range (lo := 0) (n := (1 + n).toNat) (fun j G => Pt G r ∧ (∀ b o, b ≠ r → H4 b = some o → G b = some o) ∧ ∃ ys : List Str, G D = some (.lst (ys.map V.str)) ∧ ys.length = j ∧ ∀ y ∈ ys, allLet y = true ∧ y.length = 1)
      ⟨g4.new hD, fun b o _ e => (upd_ne (ne_of_none e hD)).trans e, [], upd_same, rfl, fun y hy => nomatch hy⟩ ?_ ?_
    · rintro j G hj ⟨gR, keep, ys, aD, ly, oy⟩
      refine ⟨rfl, ?_⟩
      refine ⟨_, rfl, _, rfl, r, 26, rfl, gR, by decide, by decide, fun c H5 c0 c1 g5 b5 => ?_⟩
      obtain ⟨z, hz, mz⟩ := letter c c0 c1
      have aD5 := b5 _ _ nDr aD
      refine ⟨abc, c, z, rfl, rfl, by rw [lA, sizeLine_eq]; omega, hz, _, aD5, by rw [List.length_map, sizeLine_eq]; omega, g5.put nDr, fun b o n1 e => (upd_ne (ne_of_none e hD)).trans (b5 _ _ n1 (keep _ _ n1 e)), ys ++ [⟨#[z]⟩], ?_, by rw [List.length_append, ly]; rfl, fun y hy => ?_⟩
      · rw [upd_same, List.map_append]
        rfl
      · rcases List.mem_append.mp hy with hy | hy
        · exact oy y hy
        · rw [List.mem_singleton.mp hy]
          exact ⟨let_mem.mpr fun c hc => by
            have ec : c = z := by simpa using hc
            rw [ec]
            exact mz, rfl⟩
    · rintro G ⟨gR, keep, ys, aD, ly, oy⟩
      have jo := join_ones ys oy
      refine ⟨"", D, ys, rfl, rfl, .inl (SqL.of aD), ?_, ?_⟩
      · have e1 := ones_sum ys oy
        have e0 : ("" : Str).length = 0 := rfl
        rw [e1, e0]
        omega
      · rw [TL.join_eq]
        exact q _ _ jo.1 (by rw [jo.2]; omega) (by rw [jo.2]; omega) gR (b4.trans keep)
def spColumn : Sp := fun vs H Q _ => ∃ r : Addr, vs = [.ref r] ∧ Pt H r ∧ ∀ y H', Col y → Pt H' r → But r H H' → Q (.str y) H'
theorem ok_column {f f1 f2 : Addr} {fd d1 d2 : FuncData} (F : Fun K "_law_column" "_law_column" s__law_column f fd) (T : Blt mg) (F__law_draw : Fun K "_law_draw" "_law_draw" s__law_draw f1 d1) (b__law_draw : Binds K d1 ["_law_pot_here", "_law_many"] []) (g__law_draw : mg "_law_draw" = some (.ref f1))
    (F__law_word : Fun K "_law_word" "_law_word" s__law_word f2 d2) (b__law_word : Binds K d2 ["_law_pot_here", "_law_most"] []) (g__law_word : mg "_law_word" = some (.ref f2)) :
    FnOk P w K mg base CX0 3 f fd ["_law_pot_here"] spColumn := by
  have sc := sc__law_column
  have G__law_draw : FnOk P w K mg base CX0 1 f1 d1 _ spDraw := ok_draw F__law_draw T
  have G__law_word : FnOk P w K mg base CX0 2 f2 d2 _ spWord := ok_word F__law_word T F__law_draw b__law_draw g__law_draw
  refine F.ok sc (fun vs H Q E h => ?_) (fun cdv A outer s H vs Q E hr h => ?_)
  · obtain ⟨r, rfl, _⟩ := h
    rfl
  · obtain ⟨r, rfl, hR, q⟩ := h
    refine ⟨_, (pss_cons (ps_set (i := 1) sc.nd rfl (.inl rfl) (pe_call G__law_draw (hr.mono (by decide)) (by rfl) g__law_draw F__law_draw.kp b__law_draw .nil pass0 (pa_cons (pv 0) (pa_cons pe_int pa_nil))))
      (pss_cons (ps_if (pt_cmpR op_lt (pv 1) pe_int (nomark _)) (pss_one (ps_ret (pe_ix ix_list (pe_lst (pa_cons pe_str (pa_cons pe_str (pa_cons pe_str (pa_cons pe_str (pa_cons pe_str (pa_cons pe_str (pa_cons pe_str (pa_cons pe_str pa_nil))))))))) (pe_call G__law_draw (hr.mono (by decide)) (by rfl) g__law_draw F__law_draw.kp b__law_draw .nil pass0 (pa_cons (pv 0) (pa_cons pe_int pa_nil))) (fun _ _ => rfl)))) pss_nil)
      (pss_cons (ps_if (pt_cmpR op_eq (pv 1) pe_int (nomark _)) (pss_one (ps_ret (pe_op op_add_str (pe_op op_add_str (pe_call G__law_word (hr.mono (by decide)) (by rfl) g__law_word F__law_word.kp b__law_word .nil pass0 (pa_cons (pv 0) (pa_cons pe_int pa_nil))) pe_str) (pe_call G__law_word (hr.mono (by decide)) (by rfl) g__law_word F__law_word.kp b__law_word .nil pass0 (pa_cons (pv 0) (pa_cons pe_int pa_nil)))))) pss_nil)
      (pss_cons (ps_if (pt_cmpR op_eq (pv 1) pe_int (nomark _)) (pss_one (ps_ret (pe_slice sl_str pe_str po_none (po_some (pe_op op_add pe_int (pe_call G__law_draw (hr.mono (by decide)) (by rfl) g__law_draw F__law_draw.kp b__law_draw .nil pass0 (pa_cons (pv 0) (pa_cons pe_int pa_nil)))))))) pss_nil)
      (pss_cons (ps_set (i := 2) sc.nd rfl (.inl rfl) (pe_call G__law_word (hr.mono (by decide)) (by rfl) g__law_word F__law_word.kp b__law_word .nil pass0 (pa_cons (pv 0) (pa_cons pe_int pa_nil))))
      (pss_one (ps_ret (pe_ifExp (pt_cmpR op_eq (pv 2) pe_str (nomark _)) (pe_op op_add_str (pv 2) pe_str) (pv 2))))))))), ?_⟩
    refine ⟨_, rfl, r, 8, rfl, hR, by decide, by decide, fun way H1 w0 w1 g1 b1 => ⟨_, rfl, _, _, rfl, rfl, _, rfl, ite2 (fun e => ?_) (fun e => ⟨_, rfl, rfl, _, rfl, ite2 (fun e2 => ?_) (fun e2 => ⟨_, rfl, rfl, _, rfl, ite2 (fun e3 => ?_) (fun e3 => ?_)⟩)⟩)⟩⟩
    · refine ⟨(by show 8 ≤ sizeLine; decide), fun p hp => ⟨_, rfl, r, 8, rfl, g1.new hp, by decide, by decide, fun c H2 c0 c1 g2 b2 => ?_⟩⟩
      have n := g1.off hp
      have aP := b2 p _ n upd_same
      have bt : But r H H2 := (b1.trans (But.of (same_new hp))).trans b2
      have c7 : c = 0 ∨ c = 1 ∨ c = 2 ∨ c = 3 ∨ c = 4 ∨ c = 5 ∨ c = 6 ∨ c = 7 := by omega
      rcases c7 with rfl | rfl | rfl | rfl | rfl | rfl | rfl | rfl
      · exact ⟨_, _, _, _, rfl, rfl, SqL.of aP, rfl, q _ _ (col_word (by decide +kernel) (by decide +kernel) (by decide) (by decide)) g2 bt⟩
      · exact ⟨_, _, _, _, rfl, rfl, SqL.of aP, rfl, q _ _ (col_word (by decide +kernel) (by decide +kernel) (by decide) (by decide)) g2 bt⟩
      · exact ⟨_, _, _, _, rfl, rfl, SqL.of aP, rfl, q _ _ (col_two (x := "r") (y := "a") (by decide +kernel) (by decide +kernel) (by decide) (by decide) (by decide) (by decide)) g2 bt⟩
      · exact ⟨_, _, _, _, rfl, rfl, SqL.of aP, rfl, q _ _ (col_two (x := "s") (y := "coming") (by decide +kernel) (by decide +kernel) (by decide) (by decide) (by decide) (by decide)) g2 bt⟩
      · exact ⟨_, _, _, _, rfl, rfl, SqL.of aP, rfl, q _ _ (col_word (by decide +kernel) (by decide +kernel) (by decide) (by decide)) g2 bt⟩
      · exact ⟨_, _, _, _, rfl, rfl, SqL.of aP, rfl, q _ _ (col_word (by decide +kernel) (by decide +kernel) (by decide) (by decide)) g2 bt⟩
      · exact ⟨_, _, _, _, rfl, rfl, SqL.of aP, rfl, q _ _ (col_word (by decide +kernel) (by decide +kernel) (by decide) (by decide)) g2 bt⟩
      · exact ⟨_, _, _, _, rfl, rfl, SqL.of aP, rfl, q _ _ (col_word (by decide +kernel) (by decide +kernel) (by decide) (by decide)) g2 bt⟩
    · refine ⟨_, rfl, r, 8, rfl, g1, by decide, by decide, fun x H2 lx x1 x2 g2 b2 => ?_⟩
      have e1 : ("." : Str).length = 1 := rfl
      refine ⟨_, _, rfl, rfl, by rw [e1, sizeLine_eq]; omega, _, rfl, r, 8, rfl, g2, by decide, by decide, fun y H3 ly y1 y2 g3 b3 => ?_⟩
      exact ⟨_, _, rfl, rfl, by rw [app_len, e1, sizeLine_eq]; omega, q _ _ (col_two lx ly x1 (by omega) y1 (by omega)) g3 ((b1.trans b2).trans b3)⟩
    · refine ⟨_, rfl, r, 17, rfl, g1, by decide, by decide, fun n H2 n0 n1 g2 b2 => ?_⟩
      have all17 : ∀ k : Fin 17, allLet (cutS "abcdefghijklmnopq" none (some (1 + (k.val : Int)))) = true ∧ cutS "abcdefghijklmnopq" none (some (1 + (k.val : Int))) ≠ "none" ∧ 1 ≤ (cutS "abcdefghijklmnopq" none (some (1 + (k.val : Int)))).length ∧ (cutS "abcdefghijklmnopq" none (some (1 + (k.val : Int)))).length ≤ 17 := by decide +kernel
      obtain ⟨k, rfl⟩ := Int.eq_ofNat_of_zero_le n0
      obtain ⟨p1, p2, p3, p4⟩ := all17 ⟨k, by omega⟩
      exact ⟨_, _, rfl, rfl, _, rfl, _, rfl, (by decide), q _ _ (col_word p1 p2 p3 p4) g2 (b1.trans b2)⟩
    · refine ⟨_, rfl, r, 17, rfl, g1, by decide, by decide, fun x H2 lx x1 x2 g2 b2 => ?_⟩
      refine ⟨_, rfl, rfl, _, rfl, ite2 (fun e4 => ?_) (fun e4 => ?_)⟩
      · have ex := V.str.inj (of_decide_eq_true e4)
        subst ex
        exact ⟨_, rfl, _, _, rfl, rfl, (by decide), q _ _ (col_word (by decide +kernel) (by decide +kernel) (by decide) (by decide)) g2 (b1.trans b2)⟩
      · exact ⟨_, rfl, q _ _ (col_word lx (fun z => e4 (decide_eq_true (congrArg V.str z))) x1 (by omega)) g2 (b1.trans b2)⟩
end
end K18

set_option Elab.async false
set_option linter.all false
set_option maxRecDepth 100000
set_option maxHeartbeats 8000000
namespace K18
open PySem PySem.Spec L2 PSG PSS
open PyProof.Rows (IntsAre AllBare)
abbrev s__law_names : Stmt := topS 35
theorem sc__law_names : FnScope ["_law_pot_here", "_law_names_here", "_law_turn", "_law_column_here"] ["_law_pot_here"] (defScope s__law_names) := ⟨rfl, rfl, rfl, by decide +kernel, rfl, by decide +kernel, by decide +kernel⟩
abbrev s__law_over : Stmt := topS 36
theorem sc__law_over : FnScope ["_law_pot_here", "_law_names_here", "_law_left", "_law_made", "_law_turn"] ["_law_pot_here", "_law_names_here"] (defScope s__law_over) := ⟨rfl, rfl, rfl, by decide +kernel, rfl, by decide +kernel, by decide +kernel⟩
abbrev s__law_value : Stmt := topS 37
theorem sc__law_value : FnScope ["_law_pot_here", "_law_is_text", "_law_far"] ["_law_pot_here", "_law_is_text"] (defScope s__law_value) := ⟨rfl, rfl, rfl, by decide +kernel, rfl, by decide +kernel, by decide +kernel⟩

/-- names of columns: one at least, few, none twice -/
structure Names (N : List Str) : Prop where
  col : ∀ x ∈ N, Col x
  nd : N.Nodup
  hi : N.length ≤ 6
theorem inV_str {x : Str} {N : List Str} : inV (.str x) (N.map V.str) = decide (x ∈ N) := by
  induction N with
  | nil => rfl
  | cons y r ih =>
    show ((y == x) || inV (.str x) (r.map V.str)) = _
    rw [ih, Bool.eq_iff_iff]
    simp only [Bool.or_eq_true, beq_iff_eq, decide_eq_true_eq, List.mem_cons]
    exact or_congr eq_comm Iff.rfl
section
variable {P : Program} {w : World} {K : PySem.W.Frag} {mg : Str → Option Value} {base : Heap}
def spNames : Sp := fun vs H Q _ => ∃ r : Addr, vs = [.ref r] ∧ Pt H r ∧ ∀ p N H', Names N → H p = none → H' p = some (.lst (N.map V.str)) → Pt H' r → But r H H' → Q (.ref p) H'
theorem ok_names {f f1 f2 f3 : Addr} {fd d1 d2 d3 : FuncData} (F : Fun K "_law_names" "_law_names" s__law_names f fd) (T : Blt mg) (F__law_draw : Fun K "_law_draw" "_law_draw" s__law_draw f1 d1) (b__law_draw : Binds K d1 ["_law_pot_here", "_law_many"] []) (g__law_draw : mg "_law_draw" = some (.ref f1))
    (F__law_word : Fun K "_law_word" "_law_word" s__law_word f2 d2) (b__law_word : Binds K d2 ["_law_pot_here", "_law_most"] []) (g__law_word : mg "_law_word" = some (.ref f2))
    (F__law_column : Fun K "_law_column" "_law_column" s__law_column f3 d3) (b__law_column : Binds K d3 ["_law_pot_here"] []) (g__law_column : mg "_law_column" = some (.ref f3)) :
    FnOk P w K mg base CX0 4 f fd ["_law_pot_here"] spNames := by
  have sc := sc__law_names
  have G__law_draw : FnOk P w K mg base CX0 1 f1 d1 _ spDraw := ok_draw F__law_draw T
  have G__law_column : FnOk P w K mg base CX0 3 f3 d3 _ spColumn := ok_column F__law_column T F__law_draw b__law_draw g__law_draw F__law_word b__law_word g__law_word
  refine F.ok sc (fun vs H Q E h => ?_) (fun cdv A outer s H vs Q E hr h => ?_)
  · obtain ⟨r, rfl, _⟩ := h
    rfl
  · obtain ⟨r, rfl, hR, q⟩ := h
    refine ⟨_, (pss_cons (ps_set (i := 1) sc.nd rfl (.inl rfl) (pe_lst pa_nil))
      (pss_cons (ps_for PassesOwn.never (by rfl) (pi_range1 (by rfl) T.n_range (pa_cons (pe_op op_add pe_int (pe_call G__law_draw (hr.mono (by decide)) (by rfl) g__law_draw F__law_draw.kp b__law_draw .nil pass0 (pa_cons (pv 0) (pa_cons pe_int pa_nil)))) pa_nil)) (pg_name (i := 2) sc.nd rfl (.inl rfl)) (pss_cons (ps_set (i := 3) sc.nd rfl (.inl rfl) (pe_call G__law_column (hr.mono (by decide)) (by rfl) g__law_column F__law_column.kp b__law_column .nil pass0 (pa_cons (pv 0) pa_nil)))
      (pss_one (ps_if (pt_cmpR op_notIn_seq (pv 3) (pv 1) (by first | exact nomark _ | rfl)) (pss_one (ps_expr (pe_bm PySem.F.plainAttrs_list PySem.F.slot_list_append PySem.F.type_list_append mt_append (pv 1) (pa_cons (pv 3) pa_nil)))) pss_nil))))
      (pss_one (ps_ret (pv 1))))), ?_⟩
    refine ⟨Nat.zero_le _, fun D hD => ⟨_, rfl, r, 5, rfl, hR.new hD, by decide, by decide, fun n H1 n0 n1 g1 b1 => ⟨_, _, rfl, rfl, _, rfl, by omega, by omega, ?_⟩⟩⟩
    have nDr := hR.off hD
    have aD1 := b1 _ _ nDr upd_same
    refine for_range (n := (2 + n).toNat) (fun j σ G => ∃ y2 y3, σ = [some (.ref r), some (.ref D), y2, y3] ∧ Pt G r ∧ (∀ b o, b ≠ r → H b = some o → G b = some o) ∧ ∃ N : List Str, G D = some (.lst (N.map V.str)) ∧ N.length ≤ j ∧ N.Nodup ∧ ∀ x ∈ N, Col x)
      ⟨_, _, rfl, g1, fun b o n2 e => b1 b o n2 ((upd_ne (ne_of_none e hD)).trans e), [], aD1, Nat.le_refl _, List.nodup_nil, fun x hx => nomatch hx⟩ ?_ ?_
    · rintro j σ G hj ⟨y2, y3, rfl, gR, keep, N, aD, ln, nd, cl⟩
      refine ⟨_, rfl, r, rfl, gR, fun x H2 cx g2 b2 => ?_⟩
      have aD2 := b2 _ _ nDr aD
      have fl : (N.map V.str).all flatV = true := List.all_eq_true.mpr fun y hy => by
        obtain ⟨z, _, rfl⟩ := List.mem_map.mp hy
        rfl
      have keep2 : ∀ b o, b ≠ r → H b = some o → H2 b = some o := fun b o n3 e => b2 b o n3 (keep b o n3 e)
      refine ⟨_, rfl, _, rfl, D, _, rfl, .inl (SqL.of aD2), rfl, fl, _, rfl, ite2 (fun e => ?_) (fun e => ?_)⟩
      · rw [if_pos rfl, inV_str] at e
        have nx : x ∉ N := by simpa using e
        refine ⟨_, rfl, .inl ⟨rfl, _, SqL.of aD2⟩, _, rfl, _, _, _, rfl, rfl, aD2, by rw [List.length_map, sizeLine_eq]; omega, ?_⟩
        refine ⟨_, _, rfl, g2.put nDr, fun b o n3 e3 => (upd_ne (ne_of_none e3 hD)).trans (keep2 b o n3 e3), N ++ [x], ?_, by rw [List.length_append]; exact Nat.succ_le_succ ln, ?_, fun y hy => ?_⟩
        · rw [upd_same, List.map_append]
          rfl
        · exact List.nodup_append.mpr ⟨nd, by simp, fun a ha b hb => by
            rw [List.mem_singleton.mp hb]
            exact fun z => nx (z ▸ ha)⟩
        · rcases List.mem_append.mp hy with hy | hy
          · exact cl y hy
          · rw [List.mem_singleton.mp hy]
            exact cx
      · exact ⟨_, _, rfl, g2, keep2, N, aD2, by omega, nd, cl⟩
    · rintro σ G ⟨y2, y3, rfl, gR, keep, N, aD, ln, nd, cl⟩
      exact ⟨_, rfl, q D N G ⟨cl, nd, by omega⟩ hD aD gR keep⟩
theorem erase_map {α β : Type} {f : α → β} : ∀ (l : List α) (k : Nat), (l.map f).eraseIdx k = (l.eraseIdx k).map f
  | [], _ => rfl
  | _ :: _, 0 => rfl
  | x :: r, k + 1 => congrArg (f x :: ·) (erase_map r k)
theorem erase_perm {α : Type} : ∀ (l : List α) (k : Nat) (h : k < l.length), (l[k] :: l.eraseIdx k).Perm l
  | x :: r, 0, _ => List.Perm.refl _
  | x :: r, k + 1, h => (List.Perm.swap x (r[k]'(Nat.lt_of_succ_lt_succ h)) (r.eraseIdx k)).trans ((erase_perm r k (Nat.lt_of_succ_lt_succ h)).cons x)
def wy (b : Bool) : Str := if b then "down" else "up"
abbrev Ent := Str × Bool
/-- an entry stands as a tuple -/
def EntAt (H : Hp) (v : V) (e : Ent) : Prop := ∃ a, v = .ref a ∧ H a = some (.tup [.str e.1, .str (wy e.2)])
def EntsAt (H : Hp) : List V → List Ent → Prop
  | [], [] => True
  | v :: vs, e :: es => EntAt H v e ∧ EntsAt H vs es
  | _, _ => False
theorem EntsAt.mono {H H' : Hp} (h : ∀ a xs, H a = some (.tup xs) → H' a = some (.tup xs)) : ∀ {vs : List V} {es : List Ent}, EntsAt H vs es → EntsAt H' vs es
  | [], [], _ => trivial
  | v :: vs, e :: es, ⟨⟨a, x, y⟩, r⟩ => ⟨⟨a, x, h _ _ y⟩, EntsAt.mono h r⟩
theorem EntsAt.len {H : Hp} : ∀ {vs : List V} {es : List Ent}, EntsAt H vs es → vs.length = es.length
  | [], [], _ => rfl
  | _ :: _, _ :: _, ⟨_, r⟩ => congrArg (· + 1) (EntsAt.len r)
theorem EntsAt.app {H : Hp} {us : List V} {fs : List Ent} : ∀ {vs : List V} {es : List Ent}, EntsAt H vs es → EntsAt H us fs → EntsAt H (vs ++ us) (es ++ fs)
  | [], [], _, k => k
  | _ :: _, _ :: _, ⟨h, r⟩, k => ⟨h, EntsAt.app r k⟩
theorem EntsAt.at {H : Hp} : ∀ {vs : List V} {es : List Ent} {i : Nat} {v : V}, EntsAt H vs es → vs[i]? = some v → ∃ e, es[i]? = some e ∧ EntAt H v e
  | _ :: _, e :: _, 0, v, ⟨h, _⟩, k => ⟨e, rfl, by
    cases k
    exact h⟩
  | _ :: vs, _ :: es, i + 1, v, ⟨_, r⟩, k => EntsAt.at (i := i) r (by simpa using k)
theorem but_tup {r : Addr} {H H' : Hp} (g : Pt H r) (b : But r H H') : ∀ a xs, H a = some (.tup xs) → H' a = some (.tup xs) := fun a xs e => b a _ (fun z => by
  obtain ⟨x, y, k, _⟩ := g
  rw [z, k] at e
  cases e) e
/-- entries over these names -/
structure Ents (N : List Str) (E : List Ent) : Prop where
  sub : ∀ e ∈ E, e.1 ∈ N
  nd : (E.map (·.1)).Nodup
  hi : E.length ≤ 6
def spOver : Sp := fun vs H Q _ => ∃ (r a : Addr) (N : List Str), vs = [.ref r, .ref a] ∧ Pt H r ∧ H a = some (.lst (N.map V.str)) ∧ Names N ∧ a ≠ r ∧ ∀ p xs E H', Ents N E → H p = none → H' p = some (.lst xs) → EntsAt H' xs E → Pt H' r → But r H H' → Q (.ref p) H'
theorem ok_over {f f1 : Addr} {fd d1 : FuncData} (F : Fun K "_law_over" "_law_over" s__law_over f fd) (T : Blt mg) (F__law_draw : Fun K "_law_draw" "_law_draw" s__law_draw f1 d1) (b__law_draw : Binds K d1 ["_law_pot_here", "_law_many"] []) (g__law_draw : mg "_law_draw" = some (.ref f1)) :
    FnOk P w K mg base CX0 2 f fd ["_law_pot_here", "_law_names_here"] spOver := by
  have sc := sc__law_over
  have G__law_draw : FnOk P w K mg base CX0 1 f1 d1 _ spDraw := ok_draw F__law_draw T
  refine F.ok sc (fun vs H Q E h => ?_) (fun cdv A outer s H vs Q E hr h => ?_)
  · obtain ⟨r, a, N, rfl, _⟩ := h
    rfl
  · obtain ⟨r, a, N, rfl, hR, hN, nm, nar, q⟩ := h
    have two200 : (2 : Int) ^ 200 = 1606938044258990275541962092341162602522202993782792835301376 := by decide +kernel
    refine ⟨_, (pss_cons (ps_set (i := 2) sc.nd rfl (.inl rfl) (pe_callTy call_list_of (by rfl) T.n_list (by decide +kernel) (pa_cons (pv 1) pa_nil)))
      (pss_cons (ps_set (i := 3) sc.nd rfl (.inl rfl) (pe_lst pa_nil))
      (pss_cons (ps_for PassesOwn.never (by rfl) (pi_range1 (by rfl) T.n_range (pa_cons (pe_call G__law_draw (hr.mono (by decide)) (by rfl) g__law_draw F__law_draw.kp b__law_draw .nil pass0 (pa_cons (pv 0) (pa_cons (pe_op op_add (pe_callB call_len_seq (by rfl) T.n_len PySem.boot_len (pa_cons (pv 1) pa_nil)) pe_int) pa_nil))) pa_nil)) (pg_name (i := 4) sc.nd rfl (.inl rfl)) (pss_one (ps_expr (pe_bm PySem.F.plainAttrs_list PySem.F.slot_list_append PySem.F.type_list_append mt_append (pv 3) (pa_cons (pe_tup (pa_cons (pe_bm PySem.F.plainAttrs_list PySem.F.slot_list_pop PySem.F.type_list_pop mt_popAt (pv 2) (pa_cons (pe_call G__law_draw (hr.mono (by decide)) (by rfl) g__law_draw F__law_draw.kp b__law_draw .nil pass0 (pa_cons (pv 0) (pa_cons (pe_callB call_len_seq (by rfl) T.n_len PySem.boot_len (pa_cons (pv 2) pa_nil)) pa_nil))) pa_nil)) (pa_cons (pe_ix ix_list (pe_lst (pa_cons pe_str (pa_cons pe_str pa_nil))) (pe_call G__law_draw (hr.mono (by decide)) (by rfl) g__law_draw F__law_draw.kp b__law_draw .nil pass0 (pa_cons (pv 0) (pa_cons pe_int pa_nil))) (fun _ _ => rfl)) pa_nil))) pa_nil)))))
      (pss_one (ps_ret (pv 3)))))), ?_⟩
    refine ⟨_, rfl, a, _, rfl, .inl (SqL.of hN), fun D hD => ⟨Nat.zero_le _, fun M hM => ?_⟩⟩
    have nDr := hR.off hD
    have nMr := (hR.new hD).off hM
    have nMD : M ≠ D := fun z => by
      rw [z, upd_same] at hM
      cases hM
    have hM0 : H M = none := by rwa [upd_ne nMD] at hM
    have hN2 : (upd (upd H D (.lst (N.map V.str))) M (.lst [])) a = some (.lst (N.map V.str)) := by
      rw [upd_ne (ne_of_none (by rw [upd_ne (ne_of_none hN hD)]; exact hN) hM), upd_ne (ne_of_none hN hD)]
      exact hN
    have hl := nm.hi
    have hl2 : (N.map V.str).length = N.length := List.length_map _
    refine ⟨_, rfl, _, rfl, a, _, rfl, .inl (SqL.of hN2), _, _, rfl, rfl, r, _, rfl, (hR.new hD).new hM, by omega, by rw [two200, List.length_map]; omega, fun n H1 n0 n1 g1 b1 => ⟨_, rfl, by omega, by omega, ?_⟩⟩
    have aD1 := b1 _ _ nDr ((upd_ne nMD.symm).trans upd_same)
    have aM1 := b1 _ _ nMr upd_same
    have kp : ∀ b o, b ≠ r → H b = some o → H1 b = some o := fun b o n2 e => b1 b o n2 ((upd_ne (ne_of_none ((upd_ne (ne_of_none e hD)).trans e) hM)).trans ((upd_ne (ne_of_none e hD)).trans e))
    refine for_range (lo := 0) (n := n.toNat) (fun j σ G => ∃ y4, σ = [some (.ref r), some (.ref a), some (.ref D), some (.ref M), y4] ∧ Pt G r ∧ (∀ b o, b ≠ r → H b = some o → G b = some o) ∧ ∃ (L : List Str) (xs : List V) (E : List Ent), G D = some (.lst (L.map V.str)) ∧ G M = some (.lst xs) ∧ EntsAt G xs E ∧ E.length = j ∧ (L ++ E.map (·.1)).Perm N)
      ⟨_, rfl, g1, kp, N, [], [], aD1, aM1, trivial, rfl, by rw [List.map_nil, List.append_nil]⟩ ?_ ?_
    · rintro j σ G hj ⟨y4, rfl, gR, keep, L, xs, E, aD, aM, eA, lE, pm⟩
      have lL : L.length + E.length = N.length := by
        have := pm.length_eq
        rw [List.length_append, List.length_map] at this
        exact this
      have lL2 : (L.map V.str).length = L.length := List.length_map _
      refine ⟨_, rfl, .inl ⟨rfl, _, SqL.of aM⟩, _, rfl, .inl ⟨rfl, _, SqL.of aD⟩, _, rfl, _, rfl, D, _, rfl, .inl (SqL.of aD), r, _, rfl, gR, by omega, by rw [two200]; omega, fun c H2 c0 c1 g2 b2 => ?_⟩
      obtain ⟨k, rfl⟩ := Int.eq_ofNat_of_zero_le c0
      have lt : k < L.length := by omega
      have aD2 := b2 _ _ nDr aD
      have aM2 := b2 _ _ nMr aM
      have eA2 := eA.mono (but_tup gR b2)
      have sx : seqIndex? (k : Int) (L.map V.str).length = some k := by
        unfold seqIndex?
        have n0 : ¬ (k : Int) < 0 := by omega
        rw [lL2]
        simp only [if_neg n0]
        rw [if_pos (by simp; omega)]
        rfl
      refine ⟨D, _, _, k, _, rfl, rfl, aD2, by omega, by omega, sx, (by rw [List.getElem?_map, List.getElem?_eq_getElem lt]; rfl), ?_⟩
      refine ⟨(by show 2 ≤ sizeLine; decide), fun p hp => ?_⟩
      refine ⟨_, rfl, r, 2, rfl, (g2.put nDr (o := .lst ((L.map V.str).eraseIdx k))).new hp, by decide, by decide, fun d H3 d0 d1 g4 b4 => ?_⟩
      have npr := (g2.put nDr (o := .lst ((L.map V.str).eraseIdx k))).off hp
      have kD : ∀ b o, b ≠ r → H b = some o → H3 b = some o := fun b o n2 e => b4 b o n2 ((upd_ne (ne_of_none ((upd_ne (ne_of_none e hD)).trans (b2 b o n2 (keep b o n2 e))) hp)).trans ((upd_ne (ne_of_none e hD)).trans (b2 b o n2 (keep b o n2 e))))
      have nMp : M ≠ p := ne_of_none ((upd_ne nMD).trans aM2) hp
      have aM3 : H3 M = some (.lst xs) := b4 _ _ nMr ((upd_ne nMp).trans ((upd_ne nMD).trans aM2))
      have nDp : D ≠ p := ne_of_none upd_same hp
      have aD3 : H3 D = some (.lst ((L.map V.str).eraseIdx k)) := b4 _ _ nDr ((upd_ne nDp).trans upd_same)
      have aP3 := b4 _ _ npr upd_same
      have eA3 : EntsAt H3 xs E := eA2.mono fun c ys e => b4 c _ (fun z => by
        obtain ⟨x, y, kk, _⟩ := g2
        rw [z, kk] at e
        cases e) (by
          have ncD : c ≠ D := fun z => by
            rw [z, aD2] at e
            cases e
          have e2 := (upd_ne ncD (o := .lst ((L.map V.str).eraseIdx k))).trans e
          exact (upd_ne (ne_of_none e2 hp)).trans e2)
      have d2 : d = 0 ∨ d = 1 := by omega
      have ixd : atI ([.str "up", .str "down"] : List V) d = some (.str (wy (decide (d = 1)))) := by
        rcases d2 with rfl | rfl <;> rfl
      refine ⟨_, _, _, _, rfl, rfl, SqL.of aP3, ixd, ?_⟩
      refine ⟨(by show 2 ≤ sizeLine; decide), fun t ht => ?_⟩
      have ntM : M ≠ t := ne_of_none aM3 ht
      refine ⟨M, xs, _, rfl, rfl, (upd_ne ntM).trans aM3, by rw [eA3.len, sizeLine_eq]; omega, ?_⟩
      refine ⟨_, rfl, (g4.new ht).put nMr, fun b o n2 e => (upd_ne (ne_of_none e hM0)).trans ((upd_ne (ne_of_none (kD b o n2 e) ht)).trans (kD b o n2 e)), L.eraseIdx k, xs ++ [.ref t], E ++ [(L[k], decide (d = 1))], ?_, upd_same, ?_, by rw [List.length_append, lE]; rfl, ?_⟩
      · rw [upd_ne nMD.symm, upd_ne (ne_of_none aD3 ht), aD3, erase_map]
      · have mono : ∀ c ys, H3 c = some (.tup ys) → (upd (upd H3 t (.tup [.str L[k], .str (wy (decide (d = 1)))])) M (.lst (xs ++ [.ref t]))) c = some (.tup ys) := fun c ys e => by
          have ncM : c ≠ M := fun z => by
            rw [z, aM3] at e
            cases e
          exact (upd_ne ncM).trans ((upd_ne (ne_of_none e ht)).trans e)
        exact (eA3.mono mono).app ⟨⟨t, rfl, (upd_ne ntM.symm).trans upd_same⟩, trivial⟩
      · rw [List.map_append]
        have h1 : (L[k] :: L.eraseIdx k).Perm L := erase_perm L k lt
        have h2 : (L.eraseIdx k ++ (E.map (·.1) ++ [L[k]])).Perm (L[k] :: L.eraseIdx k ++ E.map (·.1)) := by
          rw [← List.append_assoc]
          exact List.perm_append_comm (l₁ := L.eraseIdx k ++ E.map (·.1)) (l₂ := [L[k]])
        exact h2.trans ((h1.append_right _).trans pm)
    · rintro σ G ⟨y4, rfl, gR, keep, L, xs, E, aD, aM, eA, lE, pm⟩
      refine ⟨_, rfl, q M xs E G ⟨fun e he => ?_, ?_, ?_⟩ hM0 aM eA gR keep⟩
      · exact pm.subset (List.mem_append_right _ (List.mem_map_of_mem he))
      · have nd := pm.nodup_iff.mpr nm.nd
        exact (List.nodup_append.mp nd).2.1
      · have := pm.length_eq
        rw [List.length_append, List.length_map] at this
        omega
end
end K18

set_option Elab.async false
set_option linter.all false
set_option maxRecDepth 100000
set_option maxHeartbeats 8000000
namespace K18
open PySem PySem.Spec L2 PSG PSS
open PyProof.Rows (IntsAre AllBare)

/-- a value of a column of texts, of numbers -/
def VaOk (t : Bool) (v : V) : Prop := if t = true then ∃ s : Str, v = .str s ∧ allLet s = true ∧ s.length ≤ 2 else ∃ i : Int, v = .int i
section
variable {P : Program} {w : World} {K : PySem.W.Frag} {mg : Str → Option Value} {base : Heap}
def spValue : Sp := fun vs H Q _ => ∃ (r : Addr) (t : Bool), vs = [.ref r, .bl t] ∧ Pt H r ∧ ∀ v H', VaOk t v → Pt H' r → But r H H' → Q v H'
theorem ok_lvalue {f f1 : Addr} {fd d1 : FuncData} (F : Fun K "_law_value" "_law_value" s__law_value f fd) (T : Blt mg) (F__law_draw : Fun K "_law_draw" "_law_draw" s__law_draw f1 d1) (b__law_draw : Binds K d1 ["_law_pot_here", "_law_many"] []) (g__law_draw : mg "_law_draw" = some (.ref f1)) :
    FnOk P w K mg base CX0 2 f fd ["_law_pot_here", "_law_is_text"] spValue := by
  have sc := sc__law_value
  have G__law_draw : FnOk P w K mg base CX0 1 f1 d1 _ spDraw := ok_draw F__law_draw T
  refine F.ok sc (fun vs H Q E h => ?_) (fun cdv A outer s H vs Q E hr h => ?_)
  · obtain ⟨r, t, rfl, _⟩ := h
    rfl
  · obtain ⟨r, t, rfl, hR, q⟩ := h
    refine ⟨_, (pss_cons (ps_if (pt_val (pv 1)) (pss_one (ps_ret (pe_ix ix_list (pe_lst (pa_cons pe_str (pa_cons pe_str (pa_cons pe_str (pa_cons pe_str (pa_cons pe_str (pa_cons pe_str pa_nil))))))) (pe_call G__law_draw (hr.mono (by decide)) (by rfl) g__law_draw F__law_draw.kp b__law_draw .nil pass0 (pa_cons (pv 0) (pa_cons pe_int pa_nil))) (fun _ _ => rfl)))) pss_nil)
      (pss_cons (ps_set (i := 2) sc.nd rfl (.inl rfl) (pe_ix ix_list (pe_lst (pa_cons (pe_op op_pow pe_int pe_int) (pa_cons (pe_un un_neg (pe_op op_pow pe_int pe_int)) (pa_cons (pe_op op_add (pe_op op_pow pe_int pe_int) (pe_call G__law_draw (hr.mono (by decide)) (by rfl) g__law_draw F__law_draw.kp b__law_draw .nil pass0 (pa_cons (pv 0) (pa_cons pe_int pa_nil)))) pa_nil)))) (pe_call G__law_draw (hr.mono (by decide)) (by rfl) g__law_draw F__law_draw.kp b__law_draw .nil pass0 (pa_cons (pv 0) (pa_cons pe_int pa_nil))) (fun _ _ => rfl)))
      (pss_one (ps_ret (pe_ifExp (pt_cmpR op_eq (pe_call G__law_draw (hr.mono (by decide)) (by rfl) g__law_draw F__law_draw.kp b__law_draw .nil pass0 (pa_cons (pv 0) (pa_cons pe_int pa_nil))) pe_int (nomark _)) (pv 2) (pe_op op_sub (pe_call G__law_draw (hr.mono (by decide)) (by rfl) g__law_draw F__law_draw.kp b__law_draw .nil pass0 (pa_cons (pv 0) (pa_cons pe_int pa_nil))) pe_int)))))), ?_⟩
    refine ⟨_, rfl, _, rfl, ?_⟩
    cases t with
    | true =>
      refine iteT ?_
      refine ⟨(by show 6 ≤ sizeLine; decide), fun p hp => ⟨_, rfl, r, 6, rfl, hR.new hp, by decide, by decide, fun c H2 c0 c1 g2 b2 => ?_⟩⟩
      have n := hR.off hp
      have aP := b2 p _ n upd_same
      have bt : But r H H2 := (But.of (same_new hp)).trans b2
      have c7 : c = 0 ∨ c = 1 ∨ c = 2 ∨ c = 3 ∨ c = 4 ∨ c = 5 := by omega
      rcases c7 with rfl | rfl | rfl | rfl | rfl | rfl
      all_goals exact ⟨_, _, _, _, rfl, rfl, SqL.of aP, rfl, q _ _ ⟨_, rfl, by decide +kernel, by decide⟩ g2 bt⟩
    | false =>
      refine iteF ?_
      refine ⟨_, _, rfl, rfl, ⟨by decide, by decide, by decide⟩, _, _, rfl, rfl, ⟨by decide, by decide, by decide⟩, _, rfl, _, _, rfl, rfl, ⟨by decide, by decide, by decide⟩, _, rfl, r, 3, rfl, hR, by decide, by decide, fun c H1 c0 c1 g1 b1 => ?_⟩
      refine ⟨_, _, rfl, rfl, (by show 3 ≤ sizeLine; decide), fun p hp => ⟨_, rfl, r, 3, rfl, g1.new hp, by decide, by decide, fun d H2 d0 d1 g2 b2 => ?_⟩⟩
      have n := g1.off hp
      have aP := b2 p _ n upd_same
      have bt : But r H H2 := (b1.trans (But.of (same_new hp))).trans b2
      have d2 : d = 0 ∨ d = 1 ∨ d = 2 := by omega
      have far : ∃ i : Int, atI ([.int (10 ^ 29), .int (-(10 ^ 29)), .int (10 ^ 20 + c)] : List V) d = some (.int i) := by
        rcases d2 with rfl | rfl | rfl <;> exact ⟨_, rfl⟩
      obtain ⟨i, far⟩ := far
      refine ⟨_, _, _, _, rfl, rfl, SqL.of aP, far, ?_⟩
      refine ⟨_, rfl, r, 9, rfl, g2, by decide, by decide, fun x H3 x0 x1 g3 b3 => ?_⟩
      refine ⟨rfl, _, rfl, ite2 (fun e => ?_) (fun e => ?_)⟩
      · exact ⟨_, rfl, q _ _ ⟨_, rfl⟩ g3 (bt.trans b3)⟩
      · refine ⟨_, rfl, r, 4, rfl, g3, by decide, by decide, fun y H4 y0 y1 g4 b4 => ?_⟩
        exact ⟨_, _, rfl, rfl, q _ _ ⟨_, rfl⟩ g4 ((bt.trans b3).trans b4)⟩
end
end K18

set_option Elab.async false
set_option linter.all false
set_option maxRecDepth 100000
set_option maxHeartbeats 8000000
namespace K18
open PySem PySem.Spec L2 PSG PSS
open PyProof.Rows (IntsAre AllBare)
abbrev s_is_integer : Stmt := topS 4
theorem sc_is_integer : FnScope ["value"] ["value"] (defScope s_is_integer) := ⟨rfl, rfl, rfl, by decide +kernel, rfl, by decide +kernel, by decide +kernel⟩
abbrev s_is_listing : Stmt := topS 5
theorem sc_is_listing : FnScope ["value"] ["value"] (defScope s_is_listing) := ⟨rfl, rfl, rfl, by decide +kernel, rfl, by decide +kernel, by decide +kernel⟩
abbrev s_is_letters : Stmt := topS 6
theorem sc_is_letters : FnScope ["value", "letter"] ["value"] (defScope s_is_letters) := ⟨rfl, rfl, rfl, by decide +kernel, rfl, by decide +kernel, by decide +kernel⟩
abbrev s_is_value : Stmt := topS 7
theorem sc_is_value : FnScope ["value"] ["value"] (defScope s_is_value) := ⟨rfl, rfl, rfl, by decide +kernel, rfl, by decide +kernel, by decide +kernel⟩
abbrev s_kind_of_value : Stmt := topS 8
theorem sc_kind_of_value : FnScope ["value"] ["value"] (defScope s_kind_of_value) := ⟨rfl, rfl, rfl, by decide +kernel, rfl, by decide +kernel, by decide +kernel⟩
abbrev s_sign_between : Stmt := topS 9
theorem sc_sign_between : FnScope ["one", "other"] ["one", "other"] (defScope s_sign_between) := ⟨rfl, rfl, rfl, by decide +kernel, rfl, by decide +kernel, by decide +kernel⟩
abbrev s_sign_of : Stmt := topS 19
theorem sc_sign_of : FnScope ["one", "other", "value"] ["one", "other"] (defScope s_sign_of) := ⟨rfl, rfl, rfl, by decide +kernel, rfl, by decide +kernel, by decide +kernel⟩

/-- 0: none, 1: a number, 2: a text -/
def kd : PyData → Nat
  | .int _ => 1
  | .str x => if allLet x = true ∧ x.length ≤ 12 then 2 else 0
  | _ => 0
structure Cst (mg : Str → Option Value) : Prop where
  c_LETTERS : ∃ t, mg "LETTERS" = some (.str abc t)
  c_MOST_TEXT : ∃ t, mg "MOST_TEXT" = some (.int 12 t)
structure Thing (d : PyData) : Prop where
  sm : ∀ x, d = .str x → x.length ≤ 100
def letD : PyData → Bool
  | .str x => allLet x
  | _ => false
theorem op_or {X : Cx} {o : Value → Value → Sem Value} {r r' : R2} (h : OpR X o r) (h' : OpR X o r') : OpR X o fun x y H Q => r x y H Q ∨ r' x y H Q := by
  intro pins s σ H x y v u Q I rx ry hh
  rcases hh with hh | hh
  · exact h pins s σ H x y v u Q I rx ry hh
  · exact h' pins s σ H x y v u Q I rx ry hh
section
variable {P : Program} {w : World} {K : PySem.W.Frag} {mg : Str → Option Value} {base : Heap}
def spAsk (f : PyData → Bool) : Sp := fun vs H Q _ => ∃ v d, vs = [v] ∧ Dt true H v d ∧ Thing d ∧ ∀ H', Same H H' → Q (.bl (f d)) H'
theorem ok_int {f : Addr} {fd : FuncData} (F : Fun K "is_integer" "is_integer" s_is_integer f fd) (T : Blt mg) : FnOk P w K mg base CX0 1 f fd ["value"] (spAsk fun d => isI d && !isB d) := by
  have sc := sc_is_integer
  refine F.ok sc (fun vs H Q E h => ?_) (fun cdv A outer s H vs Q E hr h => ?_)
  · obtain ⟨v, d, rfl, _⟩ := h
    rfl
  · obtain ⟨v, d, rfl, hd, nd, q⟩ := h
    refine ⟨_, (pss_one (ps_ret (pe_and (pe_callB call_isi (by rfl) T.n_isinstance (by decide +kernel) (pa_cons (pv 0) (pa_cons (pe_bltn (v := .ty "int") (by rfl) T.n_int (by decide +kernel) rfl) pa_nil))) (pe_one (pe_not (pe_callB call_isi (by rfl) T.n_isinstance (by decide +kernel) (pa_cons (pv 0) (pa_cons (pe_bltn (v := .ty "bool") (by rfl) T.n_bool (by decide +kernel) rfl) pa_nil)))))))), ?_⟩
    refine ⟨_, rfl, v, .ty "int", _, _, _, rfl, .ty _, Dt.ty hd, kit_int d, _, rfl, ite2 (fun e => ?_) (fun e => ?_)⟩
    · refine ⟨_, rfl, v, .ty "bool", _, _, _, rfl, .ty _, Dt.ty hd, kit_bool d, _, rfl, ?_⟩
      have q' := q H (Same.refl _)
      dsimp only at q'
      rw [e, Bool.true_and] at q'
      exact q'
    · have q' := q H (Same.refl _)
      dsimp only at q'
      rw [Bool.eq_false_iff.mpr e, Bool.false_and] at q'
      exact q'
theorem ok_lets {f : Addr} {fd : FuncData} (F : Fun K "is_letters" "is_letters" s_is_letters f fd) (T : Blt mg) (U : Cst mg) : FnOk P w K mg base CX0 1 f fd ["value"] (spAsk letD) := by
  have sc := sc_is_letters
  obtain ⟨tL, cL⟩ := U.c_LETTERS
  refine F.ok sc (fun vs H Q E h => ?_) (fun cdv A outer s H vs Q E hr h => ?_)
  · obtain ⟨v, d, rfl, _⟩ := h
    rfl
  · obtain ⟨v, d, rfl, hd, nd, q⟩ := h
    refine ⟨_, (pss_one (ps_ret (pe_and (pe_callB call_isi (by rfl) T.n_isinstance (by decide +kernel) (pa_cons (pv 0) (pa_cons (pe_bltn (v := .ty "str") (by rfl) T.n_str (by decide +kernel) rfl) pa_nil))) (pe_one (pe_callB (cr_all rfl) (by rfl) T.n_all (by decide +kernel) (pa_cons (pe_lc (own := [("letter", 1)]) (g := gName 1) (tt := tYes) (by rfl) sc.nd (pi_str (pv 0)) (blkOk_by (own := [("letter", 1)]) (N := ["value", "letter"]) (sc := defScope s_is_letters) (by decide +kernel)) (fun _ _ _ _ _ => pg_name (i := 1) sc.nd rfl (Or.inl rfl)) (fun _ _ _ _ _ => pts_nil) (fun _ _ _ _ _ => (pe_cmpR op_in_sign (pv 1) (pe_glob (v := .str abc) (by rfl) cL ⟨_, rfl⟩) (by rfl)))) pa_nil)))))), ?_⟩
    refine ⟨_, rfl, v, .ty "str", _, _, _, rfl, .ty _, Dt.ty hd, kit_str d, _, rfl, ite2 (fun e => ?_) (fun e => ?_)⟩
    · cases d with
      | str x =>
        cases hd
        have few := nd.sm x rfl
        have ll : (lets x).length = x.cps.size := by
          unfold lets
          rw [List.length_map, Array.length_toList]
        refine ⟨_, rfl, x, rfl, fun p hp => lc_str (fun j G => Same H G ∧ G p = some (.lst (((lets x).take j).map V.bl))) ⟨same_new hp, upd_same⟩ ?_ ?_⟩
        · rintro i c G hc ⟨sm, at_⟩
          refine ⟨rfl, ?_⟩
          refine ⟨_, rfl, c, abc, rfl, rfl, _, at_, ?_, fun b o z => (upd_ne (ne_of_none z hp)).trans (sm _ _ z), ?_⟩
          · rw [List.length_map, List.length_take, ll]
            have e3 : x.cps.size ≤ 100 := few
            rw [sizeLine_eq]
            omega
          · have e2 : (lets x)[i]? = some (decide (c ∈ abc.cps.toList)) := by
              unfold lets
              rw [List.getElem?_map, Array.getElem?_toList, hc]
              rfl
            rw [upd_same, List.take_add_one, e2, List.map_append]
            rfl
        · rintro G ⟨sm, at_⟩
          rw [← ll, List.take_length] at at_
          exact ⟨p, lets x, rfl, SqL.of at_, q G sm⟩
      | _ => exact Bool.noConfusion e
    · have q' := q H (Same.refl _)
      cases d <;> first | exact q' | exact absurd rfl e
def valD (d : PyData) : Bool := kd d != 0
theorem kd_yes {x : Str} (z : allLet x = true ∧ x.length ≤ 12) : kd (.str x) = 2 := if_pos z
theorem kd_no {x : Str} (z : ¬ (allLet x = true ∧ x.length ≤ 12)) : kd (.str x) = 0 := if_neg z
theorem kd_int {d : PyData} (h : (isI d && !isB d) = true) : ∃ i, d = .int i := by
  cases d with
  | int i => exact ⟨i, rfl⟩
  | _ => first | exact Bool.noConfusion h | (simp [isI, isB] at h)
def lenD : PyData → Nat
  | .str x => x.length
  | _ => 0
theorem kd_not_int {d : PyData} (h : ¬ (isI d && !isB d) = true) : valD d = (letD d && decide (lenD d ≤ 12)) := by
  cases d with
  | int i => exact absurd rfl h
  | str x =>
    show (kd (.str x) != 0) = (allLet x && decide (x.length ≤ 12))
    by_cases h1 : allLet x = true
    · by_cases h2 : x.length ≤ 12
      · rw [kd_yes ⟨h1, h2⟩, h1, decide_eq_true h2]
        rfl
      · rw [kd_no (fun z => h2 z.2), decide_eq_false h2, Bool.and_false]
        rfl
    · rw [kd_no (fun z => h1 z.1), Bool.eq_false_iff.mpr h1, Bool.false_and]
      rfl
  | none => rfl
  | bool b => rfl
  | list _ => rfl
  | tuple _ => rfl
  | dict _ => rfl
theorem let_str {d : PyData} (h : letD d = true) : ∃ x, d = .str x ∧ allLet x = true := by
  cases d with
  | str x => exact ⟨x, rfl, h⟩
  | _ => exact Bool.noConfusion h
theorem ok_value {f f1 f2 : Addr} {fd d1 d2 : FuncData} (F : Fun K "is_value" "is_value" s_is_value f fd) (T : Blt mg) (U : Cst mg) (F_is_integer : Fun K "is_integer" "is_integer" s_is_integer f1 d1) (b_is_integer : Binds K d1 ["value"] []) (g_is_integer : mg "is_integer" = some (.ref f1))
    (F_is_letters : Fun K "is_letters" "is_letters" s_is_letters f2 d2) (b_is_letters : Binds K d2 ["value"] []) (g_is_letters : mg "is_letters" = some (.ref f2)) : FnOk P w K mg base CX0 2 f fd ["value"] (spAsk valD) := by
  have sc := sc_is_value
  obtain ⟨tM, cM⟩ := U.c_MOST_TEXT
  have G_is_integer : FnOk P w K mg base CX0 1 f1 d1 ["value"] _ := ok_int F_is_integer T
  have G_is_letters : FnOk P w K mg base CX0 1 f2 d2 ["value"] _ := ok_lets F_is_letters T U
  refine F.ok sc (fun vs H Q E h => ?_) (fun cdv A outer s H vs Q E hr h => ?_)
  · obtain ⟨v, d, rfl, _⟩ := h
    rfl
  · obtain ⟨v, d, rfl, hd, nd, q⟩ := h
    refine ⟨_, (pss_one (ps_ret (pe_or (pe_call G_is_integer (hr.mono (by decide)) (by rfl) g_is_integer F_is_integer.kp b_is_integer .nil pass0 (pa_cons (pv 0) pa_nil)) (pe_one (pe_and (pe_call G_is_letters (hr.mono (by decide)) (by rfl) g_is_letters F_is_letters.kp b_is_letters .nil pass0 (pa_cons (pv 0) pa_nil)) (pe_one (pe_cmpR op_le (pe_callB call_len_str (by rfl) T.n_len PySem.boot_len (pa_cons (pv 0) pa_nil)) (pe_glob (v := .int 12) (by rfl) cM ⟨_, rfl⟩) (nomark _)))))))), ?_⟩
    refine ⟨_, rfl, v, d, rfl, hd, nd, fun H1 s1 => ⟨_, rfl, ite2 (fun e => ?_) (fun e => ?_)⟩⟩
    · obtain ⟨i, rfl⟩ := kd_int e
      exact q H1 s1
    · refine ⟨_, rfl, v, d, rfl, hd.same s1, nd, fun H2 s2 => ⟨_, rfl, ite2 (fun e2 => ?_) (fun e2 => ?_)⟩⟩
      · obtain ⟨x, rfl, al⟩ := let_str e2
        cases hd
        have few := nd.sm x rfl
        refine ⟨_, rfl, x, rfl, by rw [sizeLine_eq]; omega, _, _, rfl, rfl, ?_⟩
        have q' := q H2 (s1.trans s2)
        rw [kd_not_int e] at q'
        have e3 : (letD (.str x) && decide (lenD (.str x) ≤ 12)) = decide ((x.length : Int) ≤ 12) := by
          rw [e2, Bool.true_and]
          exact decide_eq_decide.mpr ⟨fun z => by have z' : x.length ≤ 12 := z; omega, fun z => by show x.length ≤ 12; omega⟩
        rw [e3] at q'
        exact q'
      · have q' := q H2 (s1.trans s2)
        rw [kd_not_int e, Bool.eq_false_iff.mpr e2, Bool.false_and] at q'
        exact q'
def kindT (d : PyData) : Str := if isS d = true then "text" else "number"
def spKindOf : Sp := fun vs H Q _ => ∃ v d, vs = [v] ∧ Dt true H v d ∧ Q (.str (kindT d)) H
theorem ok_kind_of {f : Addr} {fd : FuncData} (F : Fun K "kind_of_value" "kind_of_value" s_kind_of_value f fd) (T : Blt mg) : FnOk P w K mg base CX0 1 f fd ["value"] spKindOf := by
  have sc := sc_kind_of_value
  refine F.ok sc (fun vs H Q E h => ?_) (fun cdv A outer s H vs Q E hr h => ?_)
  · obtain ⟨v, d, rfl, _⟩ := h
    rfl
  · obtain ⟨v, d, rfl, hd, q⟩ := h
    refine ⟨_, (pss_one (ps_ret (pe_ifExp (pt_val (pe_callB call_isi (by rfl) T.n_isinstance (by decide +kernel) (pa_cons (pv 0) (pa_cons (pe_bltn (v := .ty "str") (by rfl) T.n_str (by decide +kernel) rfl) pa_nil)))) pe_str pe_str))), ?_⟩
    refine ⟨_, rfl, v, .ty "str", _, _, _, rfl, .ty _, Dt.ty hd, kit_str d, _, rfl, ite2 (fun e => ?_) (fun e => ?_)⟩
    · unfold kindT at q
      rw [if_pos e] at q
      exact q
    · unfold kindT at q
      rw [if_neg e] at q
      exact q
/-- the sign of two values of one kind -/
def sgn : PyData → PyData → Int
  | .int i, .int j => if i < j then -1 else if j < i then 1 else 0
  | .str x, .str y => if x.cps.toList < y.cps.toList then -1 else if y.cps.toList < x.cps.toList then 1 else 0
  | _, _ => 0
theorem same_kind {d e : PyData} (h : kd d ≠ 0) (h2 : kd d = kd e) : (∃ i j, d = .int i ∧ e = .int j) ∨ ∃ x y, d = .str x ∧ e = .str y ∧ allLet x = true ∧ allLet y = true ∧ x.length ≤ 12 ∧ y.length ≤ 12 := by
  have str : ∀ {x : Str}, kd (.str x) ≠ 0 → allLet x = true ∧ x.length ≤ 12 := fun {x} z => by
    refine Classical.byContradiction fun n => z ?_
    exact kd_no n
  cases d with
  | int i => cases e with
    | int j => exact .inl ⟨i, j, rfl, rfl⟩
    | str y =>
      have z := str (x := y) (fun z => by rw [← h2] at z; exact h z)
      rw [kd_yes z] at h2
      cases h2
    | _ => cases h2
  | str x =>
    have z := str h
    cases e with
    | int j =>
      rw [kd_yes z] at h2
      cases h2
    | str y =>
      have z2 := str (x := y) (fun z => by rw [← h2] at z; exact h z)
      exact .inr ⟨x, y, rfl, rfl, z.1, z2.1, z.2, z2.2⟩
    | _ => exact absurd h2 h
  | _ => exact absurd rfl h
def spBetween : Sp := fun vs H Q _ => ∃ v u d e, vs = [v, u] ∧ Dt true H v d ∧ Dt true H u e ∧ kd d ≠ 0 ∧ kd d = kd e ∧ Q (.int (sgn d e)) H
theorem ok_between {f : Addr} {fd : FuncData} (F : Fun K "sign_between" "sign_between" s_sign_between f fd) : FnOk P w K mg base CX0 1 f fd ["one", "other"] spBetween := by
  have sc := sc_sign_between
  refine F.ok sc (fun vs H Q E h => ?_) (fun cdv A outer s H vs Q E hr h => ?_)
  · obtain ⟨v, u, d, e, rfl, _⟩ := h
    rfl
  · obtain ⟨v, u, d, e, rfl, hd, he, h1, h2, q⟩ := h
    refine ⟨_, (pss_cons (ps_if (pt_cmpR (op_or op_lt op_lt_str) (pv 0) (pv 1) (nomark _)) (pss_one (ps_ret (pe_un un_neg pe_int))) pss_nil)
      (pss_one (ps_ret (pe_ifExp (pt_cmpR (op_or op_gt op_gt_str) (pv 0) (pv 1) (nomark _)) pe_int pe_int)))), ?_⟩
    rcases same_kind h1 h2 with ⟨i, j, rfl, rfl⟩ | ⟨x, y, rfl, rfl, _⟩
    · cases hd
      cases he
      refine ⟨_, rfl, _, rfl, .inl ⟨i, j, rfl, rfl, _, rfl, ite2 (fun e => ?_) (fun e => ?_)⟩⟩
      · refine ⟨_, rfl, ?_⟩
        have q' : Q (.int (if i < j then -1 else if j < i then 1 else 0)) H := q
        rw [if_pos (of_decide_eq_true e)] at q'
        exact q'
      · refine ⟨_, rfl, _, rfl, .inl ⟨i, j, rfl, rfl, _, rfl, ite2 (fun e3 => ?_) (fun e3 => ?_)⟩⟩
        all_goals
          have q' : Q (.int (if i < j then -1 else if j < i then 1 else 0)) H := q
          rw [if_neg (fun z => e (decide_eq_true z))] at q'
        · rw [if_pos (of_decide_eq_true e3)] at q'
          exact q'
        · rw [if_neg (fun z => e3 (decide_eq_true z))] at q'
          exact q'
    · cases hd
      cases he
      refine ⟨_, rfl, _, rfl, .inr ⟨x, y, rfl, rfl, _, rfl, ite2 (fun e => ?_) (fun e => ?_)⟩⟩
      · refine ⟨_, rfl, ?_⟩
        have q' : Q (.int (if x.cps.toList < y.cps.toList then -1 else if y.cps.toList < x.cps.toList then 1 else 0)) H := q
        rw [if_pos (of_decide_eq_true e)] at q'
        exact q'
      · refine ⟨_, rfl, _, rfl, .inr ⟨x, y, rfl, rfl, _, rfl, ite2 (fun e3 => ?_) (fun e3 => ?_)⟩⟩
        all_goals
          have q' : Q (.int (if x.cps.toList < y.cps.toList then -1 else if y.cps.toList < x.cps.toList then 1 else 0)) H := q
          rw [if_neg (fun z => e (decide_eq_true z))] at q'
        · rw [if_pos (of_decide_eq_true e3)] at q'
          exact q'
        · rw [if_neg (fun z => e3 (decide_eq_true z))] at q'
          exact q'

/-- the sign of two values of one kind -/
def spSign : Sp := fun vs H Q _ => ∃ v u d e, vs = [v, u] ∧ Dt true H v d ∧ Dt true H u e ∧ Thing d ∧ Thing e ∧ kd d ≠ 0 ∧ kd d = kd e ∧ ∀ H', Same H H' → Q (.int (sgn d e)) H'
theorem ok_sign {f f1 f2 f3 : Addr} {fd d1 d2 d3 : FuncData} (F : Fun K "sign_of" "sign_of" s_sign_of f fd)
    (F_is_value : Fun K "is_value" "is_value" s_is_value f1 d1) (b_is_value : Binds K d1 ["value"] []) (g_is_value : mg "is_value" = some (.ref f1)) (G_is_value : FnOk P w K mg base CX0 2 f1 d1 ["value"] (spAsk valD))
    (F_kind_of_value : Fun K "kind_of_value" "kind_of_value" s_kind_of_value f2 d2) (b_kind_of_value : Binds K d2 ["value"] []) (g_kind_of_value : mg "kind_of_value" = some (.ref f2)) (T : Blt mg)
    (F_sign_between : Fun K "sign_between" "sign_between" s_sign_between f3 d3) (b_sign_between : Binds K d3 ["one", "other"] []) (g_sign_between : mg "sign_between" = some (.ref f3)) :
    FnOk P w K mg base CX0 3 f fd ["one", "other"] spSign := by
  have sc := sc_sign_of
  have G_kind_of_value : FnOk P w K mg base CX0 1 f2 d2 ["value"] spKindOf := ok_kind_of F_kind_of_value T
  have G_sign_between : FnOk P w K mg base CX0 1 f3 d3 ["one", "other"] spBetween := ok_between F_sign_between
  refine F.ok sc (fun vs H Q E h => ?_) (fun cdv A outer s H vs Q E hr h => ?_)
  · obtain ⟨v, u, d, e, rfl, _⟩ := h
    rfl
  · obtain ⟨v, u, d, e, rfl, hd, he, nd, ne, k1, yk, q1⟩ := h
    have k2 : kd e ≠ 0 := fun z => k1 (yk.trans z)
    have vy : ∀ {x : PyData}, kd x ≠ 0 → valD x = true := fun {x} h => by simpa [valD] using h
    refine ⟨_, (pss_cons (ps_for PassesOwn.never (by rfl) (pi_tup (pe_tup (pa_cons (pv 0) (pa_cons (pv 1) pa_nil)))) (pg_name (i := 2) sc.nd rfl (.inl rfl)) (pss_one (ps_if (pt_not (pt_val (pe_call G_is_value (hr.mono (by decide)) (by rfl) g_is_value F_is_value.kp b_is_value .nil pass0 (pa_cons (pv 2) pa_nil)))) (pss_one ps_never) pss_nil)))
      (pss_cons (ps_if (pt_cmpR op_ne (pe_call G_kind_of_value (hr.mono (by decide)) (by rfl) g_kind_of_value F_kind_of_value.kp b_kind_of_value .nil pass0 (pa_cons (pv 0) pa_nil)) (pe_call G_kind_of_value (hr.mono (by decide)) (by rfl) g_kind_of_value F_kind_of_value.kp b_kind_of_value .nil pass0 (pa_cons (pv 1) pa_nil)) (nomark _)) (pss_one ps_never) pss_nil)
      (pss_one (ps_ret (pe_call G_sign_between (hr.mono (by decide)) (by rfl) g_sign_between F_sign_between.kp b_sign_between .nil pass0 (pa_cons (pv 0) (pa_cons (pv 1) pa_nil))))))), ?_⟩
    refine ⟨_, rfl, _, rfl, by show 2 ≤ sizeLine; decide, fun p hp => ⟨p, rfl, ⟨_, SqT.of upd_same⟩, ?_⟩⟩
    have at0 : upd H p (.tup [v, u]) p = some (.tup [v, u]) := upd_same
    have s0 : Same H (upd H p (.tup [v, u])) := same_new hp
    generalize upd H p (.tup [v, u]) = H0 at at0 s0 ⊢
    refine for_tup (xs := [v, u]) (fun i σ G => ∃ y, σ = [some v, some u, y] ∧ Same H0 G) ⟨none, rfl, Same.refl _⟩ (fun i σ G _ ⟨_, _, k⟩ => SqT.of (k _ _ at0)) ?_ ?_
    · rintro i x σ G hx ⟨y, rfl, k⟩
      have t1 := s0.trans k
      match i, hx with
      | 0, hx =>
        cases hx
        refine ⟨_, rfl, v, d, rfl, hd.same t1, nd, fun H1 s1 => ⟨_, rfl, ite2 (fun a => ?_) (fun a => ?_)⟩⟩
        · rw [vy k1] at a
          cases a
        · exact ⟨_, rfl, k.trans s1⟩
      | 1, hx =>
        cases hx
        refine ⟨_, rfl, u, e, rfl, he.same t1, ne, fun H1 s1 => ⟨_, rfl, ite2 (fun a => ?_) (fun a => ?_)⟩⟩
        · rw [vy k2] at a
          cases a
        · exact ⟨_, rfl, k.trans s1⟩
      | i + 2, hx => cases hx
    · rintro σ G ⟨y, rfl, k⟩
      have t1 := s0.trans k
      refine ⟨_, rfl, v, d, rfl, hd.same t1, _, rfl, u, e, rfl, he.same t1, ?_⟩
      refine ⟨rfl, _, rfl, ite2 (fun a => ?_) (fun a => ?_)⟩
      · have eq : kindT d = kindT e := by
          rcases same_kind k1 yk with ⟨i, j, rfl, rfl⟩ | ⟨x, z, rfl, rfl, _⟩ <;> rfl
        rw [eq, decide_eq_true rfl] at a
        cases a
      · exact ⟨_, rfl, _, rfl, v, u, d, e, rfl, hd.same t1, he.same t1, k1, yk, q1 G t1⟩
end
end K18

set_option Elab.async false
set_option linter.all false
set_option maxRecDepth 100000
set_option maxHeartbeats 8000000
namespace K18
open PySem PySem.Spec L2 PSG PSS
open PyProof.Rows (IntsAre AllBare)
abbrev s_is_order_column : Stmt := topS 20
theorem sc_is_order_column : FnScope ["value", "parts", "part"] ["value"] (defScope s_is_order_column) := ⟨rfl, rfl, rfl, by decide +kernel, rfl, by decide +kernel, by decide +kernel⟩
abbrev s_is_entry : Stmt := topS 21
theorem sc_is_entry : FnScope ["value"] ["value"] (defScope s_is_entry) := ⟨rfl, rfl, rfl, by decide +kernel, rfl, by decide +kernel, by decide +kernel⟩
abbrev s_sign_by : Stmt := topS 24
theorem sc_sign_by : FnScope ["entries", "signs", "column", "direction", "sign"] ["entries", "signs"] (defScope s_sign_by) := ⟨rfl, rfl, rfl, by decide +kernel, rfl, by decide +kernel, by decide +kernel⟩

structure Cst2 (mg : Str → Option Value) : Prop where
  c_NO_ENTRIES : ∃ t, mg "NO_ENTRIES" = some (.str "none" t)
  c_MOST_COLUMN : ∃ t, mg "MOST_COLUMN" = some (.int 17 t)
section
variable {P : Program} {w : World} {K : PySem.W.Frag} {mg : Str → Option Value} {base : Heap}
def spIsCol : Sp := fun vs H Q _ => ∃ x : Str, vs = [.str x] ∧ Col x ∧ ∀ H', Same H H' → Q (.bl true) H'
theorem col_split {x : Str} (c : Col x) : ∃ ps : List Str, ps.length ≤ 2 ∧ (∀ p ∈ ps, p ≠ "" ∧ allLet p = true ∧ p.length ≤ 17) ∧ Txt.split x "." = ps := by
  obtain ⟨ps, ne, le, al, e⟩ := c.parts
  refine ⟨ps, le, fun p hp => ⟨(al p hp).1, (al p hp).2, ?_⟩, ?_⟩
  · have hi := c.hi
    rw [TL.join_eq] at e
    match ps, le, e with
    | [a], _, e =>
      have e2 : a = x := e
      rw [List.mem_singleton.mp hp, e2]
      exact hi
    | [a, b], _, e =>
      have e2 : a ++ "." ++ b = x := e
      have l := congrArg Str.length e2
      have l1 : ("." : Str).length = 1 := rfl
      rw [app_len, app_len, l1] at l
      simp only [List.mem_cons, List.not_mem_nil, or_false] at hp
      rcases hp with rfl | rfl <;> omega
  · rw [← e]
    refine TL.split_join (s := 46) (S := []) rfl (by decide +kernel) ne fun p hp hc => ?_
    have := let_mem.mp (al p hp).2 46 hc
    exact absurd this (by decide)
theorem ok_iscol {f f1 : Addr} {fd d1 : FuncData} (F : Fun K "is_order_column" "is_order_column" s_is_order_column f fd) (T : Blt mg) (U : Cst mg) (U2 : Cst2 mg)
    (F_is_letters : Fun K "is_letters" "is_letters" s_is_letters f1 d1) (b_is_letters : Binds K d1 ["value"] []) (g_is_letters : mg "is_letters" = some (.ref f1)) : FnOk P w K mg base CX0 2 f fd ["value"] spIsCol := by
  have sc := sc_is_order_column
  have G_is_letters : FnOk P w K mg base CX0 1 f1 d1 ["value"] _ := ok_lets F_is_letters T U
  obtain ⟨tN, cN⟩ := U2.c_NO_ENTRIES
  obtain ⟨tM, cM⟩ := U2.c_MOST_COLUMN
  refine F.ok sc (fun vs H Q E h => ?_) (fun cdv A outer s H vs Q E hr h => ?_)
  · obtain ⟨x, rfl, _⟩ := h
    rfl
  · obtain ⟨x, rfl, hx, q⟩ := h
    obtain ⟨ps, lp, ap, es⟩ := col_split hx
    refine ⟨_, (pss_cons (ps_if (PW.pt (pw_or (pt_not (pt_val (pe_callB call_isi (by rfl) T.n_isinstance (by decide +kernel) (pa_cons (pv 0) (pa_cons (pe_bltn (v := .ty "str") (by rfl) T.n_str (by decide +kernel) rfl) pa_nil))))) (pw_or (pt_cmpR op_eq (pv 0) (pe_glob (v := .str "none") (by rfl) cN ⟨_, rfl⟩) (nomark _)) (pw_or1 (pt_not (pt_chain op_le op_le pe_int (pe_callB call_len_str (by rfl) T.n_len PySem.boot_len (pa_cons (pv 0) pa_nil)) (pe_glob (v := .int 17) (by rfl) cM ⟨_, rfl⟩))))))) (pss_one (ps_ret pe_bl)) pss_nil)
      (pss_cons (ps_set (i := 1) sc.nd rfl (.inl rfl) (pe_split (pv 0) pe_str))
      (pss_one (ps_ret (pe_and (pe_cmpR op_le (pe_callB call_len_seq (by rfl) T.n_len PySem.boot_len (pa_cons (pv 1) pa_nil)) pe_int (nomark _)) (pe_one (pe_callB (cr_all rfl) (by rfl) T.n_all (by decide +kernel) (pa_cons (pe_lc (own := [("part", 2)]) (g := gName 2) (tt := tYes) (by rfl) sc.nd (pi_list (pv 1)) (blkOk_by (own := [("part", 2)]) (N := ["value", "parts", "part"]) (sc := defScope s_is_order_column) (by decide +kernel)) (fun _ _ _ _ _ => pg_name (i := 2) sc.nd rfl (Or.inl rfl)) (fun _ _ _ _ _ => pts_nil) (fun _ _ _ _ _ => (pe_and (pe_cmpR op_ne (pv 2) pe_str (nomark _)) (pe_one (pe_call G_is_letters (hr.mono (by decide)) (by rfl) g_is_letters F_is_letters.kp b_is_letters .nil pass0 (pa_cons (pv 2) pa_nil)))))) pa_nil)))))))), ?_⟩
    have hd : Dt true H (.str x) (.str x) := .str _
    refine ⟨_, rfl, .str x, .ty "str", _, _, _, rfl, .ty _, Dt.ty hd, kit_str (.str x), _, rfl, ite2 (fun e => ?_) (fun e => ?_)⟩
    · cases e
    · refine ⟨_, rfl, rfl, _, rfl, ite2 (fun e2 => ?_) (fun e2 => ?_)⟩
      · exact absurd (V.str.inj (of_decide_eq_true e2)) hx.ne
      · have l1 := hx.lo
        have l2 := hx.hi
        refine ⟨_, rfl, x, rfl, by rw [sizeLine_eq]; omega, ?_⟩
        refine ⟨_, _, rfl, rfl, _, rfl, ite2 (fun e3 => ?_) (fun e3 => ?_)⟩
        · refine ⟨_, _, rfl, rfl, _, rfl, ite2 (fun e4 => ?_) (fun e4 => ?_)⟩
          · have b : (x.length : Int) ≤ 17 := by omega
            simp [b] at e4
          · refine ⟨_, rfl, ⟨_, rfl⟩, _, _, rfl, rfl, rfl, by rw [sizeLine_eq]; omega, fun p hp => ?_⟩
            rw [es]
            have aP : upd H p (.lst (ps.map V.str)) p = some (.lst (ps.map V.str)) := upd_same
            have sP : Same H (upd H p (.lst (ps.map V.str))) := same_new hp
            generalize upd H p (.lst (ps.map V.str)) = H1 at aP sP ⊢
            have lm : (ps.map V.str).length = ps.length := List.length_map _
            refine ⟨_, rfl, p, _, rfl, .inl (SqL.of aP), _, _, rfl, rfl, _, rfl, ite2 (fun e5 => ?_) (fun e5 => ?_)⟩
            · refine ⟨_, rfl, p, rfl, ⟨_, SqL.of aP⟩, fun D hD => w_list (xs := ps.map V.str) (fun i G => Same H1 G ∧ G D = some (.lst ((List.replicate i true).map V.bl))) ⟨same_new hD, upd_same⟩ (fun i G _ z => SqL.of (z.1 _ _ aP)) ?_ ?_⟩
              · rintro i x G hi ⟨k, aD⟩
                refine ⟨rfl, ?_⟩
                have lt : i < ps.length := by
                  have := (List.getElem?_eq_some_iff.mp hi).1
                  rwa [lm] at this
                rw [List.getElem?_map, List.getElem?_eq_getElem lt] at hi
                obtain rfl : V.str ps[i] = x := Option.some.inj hi
                obtain ⟨a1, a2, a3⟩ := ap _ (List.getElem_mem lt)
                refine ⟨_, rfl, rfl, _, rfl, ite2 (fun e6 => ?_) (fun e6 => ?_)⟩
                · refine ⟨_, rfl, .str ps[i], .str ps[i], rfl, .str _, ⟨fun z ez => by
                    cases ez
                    omega⟩, fun H2 s2 => ?_⟩
                  have aD2 := s2 _ _ aD
                  refine ⟨_, aD2, by rw [List.length_map, List.length_replicate, sizeLine_eq]; omega, fun b o e => (upd_ne (ne_of_none e hD)).trans (s2 _ _ (k _ _ e)), ?_⟩
                  rw [upd_same]
                  show some (HO.lst (_ ++ [V.bl (allLet ps[i])])) = _
                  rw [a2, List.replicate_succ', List.map_append]
                  rfl
                · have b : ¬ V.str ps[i] = V.str "" := fun z => a1 (V.str.inj z)
                  exact absurd (by simpa using b) e6
              · rintro G ⟨k, aD⟩
                refine ⟨D, _, rfl, SqL.of aD, ?_⟩
                have al : (List.replicate (ps.map V.str).length true).all id = true := by simp
                rw [al]
                exact q G (sP.trans k)
            · have b : ((ps.map V.str).length : Int) ≤ 2 := by omega
              exact absurd (decide_eq_true b) e5
        · have b : (1 : Int) ≤ (x.length : Int) := by omega
          exact absurd (decide_eq_true b) e3
def spIsEnt : Sp := fun vs H Q _ => ∃ (v : V) (e : Ent), vs = [v] ∧ EntAt H v e ∧ Col e.1 ∧ ∀ H', Same H H' → Q (.bl true) H'
theorem ok_isent {f f1 : Addr} {fd d1 : FuncData} (F : Fun K "is_entry" "is_entry" s_is_entry f fd) (T : Blt mg)
    (F_is_order_column : Fun K "is_order_column" "is_order_column" s_is_order_column f1 d1) (b_is_order_column : Binds K d1 ["value"] []) (g_is_order_column : mg "is_order_column" = some (.ref f1)) (G_is_order_column : FnOk P w K mg base CX0 2 f1 d1 ["value"] spIsCol) : FnOk P w K mg base CX0 3 f fd ["value"] spIsEnt := by
  have sc := sc_is_entry
  refine F.ok sc (fun vs H Q E h => ?_) (fun cdv A outer s H vs Q E hr h => ?_)
  · obtain ⟨v, e, rfl, _⟩ := h
    rfl
  · obtain ⟨v, e, rfl, ⟨a, rfl, ha⟩, hc, q⟩ := h
    refine ⟨_, (pss_cons (ps_if (PW.pt (pw_or (pt_not (pt_val (pe_callB call_isi (by rfl) T.n_isinstance (by decide +kernel) (pa_cons (pv 0) (pa_cons (pe_bltn (v := .ty "tuple") (by rfl) T.n_tuple (by decide +kernel) rfl) pa_nil))))) (pw_or1 (pt_cmpR op_ne (pe_callB call_len_seq (by rfl) T.n_len PySem.boot_len (pa_cons (pv 0) pa_nil)) pe_int (nomark _))))) (pss_one (ps_ret pe_bl)) pss_nil)
      (pss_one (ps_ret (pe_and (pe_call G_is_order_column (hr.mono (by decide)) (by rfl) g_is_order_column F_is_order_column.kp b_is_order_column .nil pass0 (pa_cons (pe_ix ix_tup (pv 0) pe_int (fun _ _ => rfl)) pa_nil)) (pe_and (pe_callB call_isi (by rfl) T.n_isinstance (by decide +kernel) (pa_cons (pe_ix ix_tup (pv 0) pe_int (fun _ _ => rfl)) (pa_cons (pe_bltn (v := .ty "str") (by rfl) T.n_str (by decide +kernel) rfl) pa_nil))) (pe_one (pe_cmpR op_in_seq (pe_ix ix_tup (pv 0) pe_int (fun _ _ => rfl)) (pe_tup (pa_cons pe_str (pa_cons pe_str pa_nil))) (by first | exact nomark _ | rfl)))))))), ?_⟩
    have hd : Dt true H (.ref a) (.tuple [.str e.1, .str (wy e.2)]) := .tup ha (.cons (.str _) (.cons (.str _) .nil))
    refine ⟨_, rfl, .ref a, .ty "tuple", _, _, _, rfl, .ty _, Dt.ty hd, kit_tuple _, _, rfl, ite2 (fun e => ?_) (fun e2 => ?_)⟩
    · cases e
    · refine ⟨_, rfl, a, _, rfl, .inr (SqT.of ha), rfl, _, rfl, ite2 (fun e3 => ?_) (fun e3 => ?_)⟩
      · cases e3
      · refine ⟨_, rfl, a, _, 0, _, rfl, rfl, SqT.of ha, rfl, _, rfl, hc, fun H1 s1 => ?_⟩
        have ha1 := s1 _ _ ha
        have hs : Dt true H1 (.str (wy e.2)) (.str (wy e.2)) := .str _
        refine ⟨_, rfl, iteT ?_⟩
        refine ⟨_, rfl, a, _, 1, _, rfl, rfl, SqT.of ha1, rfl, .str (wy e.2), .ty "str", _, _, _, rfl, .ty _, Dt.ty hs, kit_str _, _, rfl, ite2 (fun e4 => ?_) (fun e4 => ?_)⟩
        · refine ⟨_, rfl, a, _, 1, _, rfl, rfl, SqT.of ha1, rfl, (by show 2 ≤ sizeLine; decide), fun p hp => ?_⟩
          refine ⟨p, _, rfl, .inr (SqT.of upd_same), rfl, rfl, ?_⟩
          have yes : inV (.str (wy e.2)) [.str "up", .str "down"] = true := by cases e.2 <;> decide +kernel
          rw [if_neg Bool.false_ne_true, yes]
          exact q _ (s1.trans (same_new hp))
        · exact absurd rfl e4
end
end K18

set_option Elab.async false
set_option linter.all false
set_option maxRecDepth 100000
set_option maxHeartbeats 8000000
namespace K18
open PySem PySem.Spec L2 PSG PSS
open PyProof.Rows (IntsAre AllBare)

/-- the sign by entries of signs of columns -/
def sgE (g : Str → Int) : List Ent → Int
  | [] => 0
  | e :: r => if g e.1 = 0 then sgE g r else if e.2 then -(g e.1) else g e.1
theorem sgE_zero {g : Str → Int} : ∀ {E : List Ent} {i : Nat}, (∀ j e, j < i → E[j]? = some e → g e.1 = 0) → sgE g E = sgE g (E.drop i)
  | [], i, _ => by rw [List.drop_nil]
  | e :: r, 0, _ => rfl
  | e :: r, i + 1, h => by
    have h0 := h 0 e (Nat.succ_pos _) rfl
    show (if g e.1 = 0 then sgE g r else if e.2 then -(g e.1) else g e.1) = sgE g (r.drop i)
    rw [if_pos h0]
    exact sgE_zero fun j x lt hx => h (j + 1) x (Nat.succ_lt_succ lt) (by simpa using hx)
section
variable {P : Program} {w : World} {K : PySem.W.Frag} {mg : Str → Option Value} {base : Heap}
/-- a dict that gives these signs for the columns of the entries -/
def GivesS (H : Hp) (d : Addr) (g : Str → Int) (E : List Ent) : Prop := ∃ kvs : List (Key × V), H d = some (.dK kvs) ∧ ∀ e ∈ E, (valV kvs (Sum.inr e.1)).getD (.int 0) = .int (g e.1)
def spBy : Sp := fun vs H Q _ => ∃ (t d : Addr) (xs : List V) (E : List Ent) (g : Str → Int), vs = [.ref t, .ref d] ∧ H t = some (.tup xs) ∧ EntsAt H xs E ∧ GivesS H d g E ∧ ∀ H', Same H H' → Q (.int (sgE g E)) H'
theorem ok_by {f : Addr} {fd : FuncData} (F : Fun K "sign_by" "sign_by" s_sign_by f fd) : FnOk P w K mg base CX0 1 f fd ["entries", "signs"] spBy := by
  have sc := sc_sign_by
  refine F.ok sc (fun vs H Q E h => ?_) (fun cdv A outer s H vs Q E hr h => ?_)
  · obtain ⟨t, d, xs, E, g, rfl, _⟩ := h
    rfl
  · obtain ⟨t, d, xs, E, g, rfl, ht, hE, ⟨kvs, hd, hg⟩, q⟩ := h
    have lE := hE.len
    refine ⟨_, (pss_cons (ps_for PassesOwn.never (by rfl) (pi_tup (pv 0)) (pg_tup (by rfl) (pgs_cons (pg_name (i := 2) sc.nd rfl (.inl rfl)) (pgs_cons (pg_name (i := 3) sc.nd rfl (.inl rfl)) pgs_nil))) (pss_cons (ps_set (i := 4) sc.nd rfl (.inl rfl) (pe_dget2 (hu_of hr) (pv 1) (pv 2) pe_int ⟨rfl, rfl, rfl, rfl⟩))
      (pss_one (ps_if (pt_cmpR op_ne (pv 4) pe_int (nomark _)) (pss_one (ps_ret (pe_ifExp (pt_cmpR op_eq (pv 3) pe_str (nomark _)) (pe_un un_neg (pv 4)) (pv 4)))) pss_nil))))
      (pss_one (ps_ret pe_int))), ?_⟩
    refine ⟨_, rfl, t, rfl, ⟨_, SqT.of ht⟩, for_tup (xs := xs) (fun i σ G => ∃ y2 y3 y4, σ = [some (.ref t), some (.ref d), y2, y3, y4] ∧ Same H G ∧ ∀ j e, j < i → E[j]? = some e → g e.1 = 0) ⟨none, none, none, rfl, Same.refl _, fun j e lt => by omega⟩ (fun i σ G _ ⟨_, _, _, _, k, _⟩ => SqT.of (k _ _ ht)) ?_ ?_⟩
    · rintro i x σ G hx ⟨y2, y3, y4, rfl, k, z⟩
      obtain ⟨e, he, a, rfl, ha⟩ := hE.at hx
      refine ⟨a, _, rfl, SqT.of (k _ _ ha), rfl, _, _, rfl, _, _, rfl, rfl, ?_⟩
      have he2 := hg e (List.mem_of_getElem? he)
      refine ⟨_, rfl, d, rfl, .inl ⟨kvs, .inl (k _ _ hd)⟩, _, rfl, _, DGet.k (k := Sum.inr e.1) (k _ _ hd), ?_⟩
      rw [he2]
      have ei : sgE g E = sgE g (E.drop i) := sgE_zero z
      have ed : E.drop i = e :: E.drop (i + 1) := by
        obtain ⟨lt, ee⟩ := List.getElem?_eq_some_iff.mp he
        rw [← ee]
        exact List.drop_eq_getElem_cons lt
      refine ⟨_, rfl, rfl, _, rfl, ite2 (fun e5 => ?_) (fun e5 => ?_)⟩
      · have ne : ¬ g e.1 = 0 := by simpa using e5
        have eq : sgE g E = if e.2 then -(g e.1) else g e.1 := by
          rw [ei, ed]
          exact if_neg ne
        rw [eq] at q
        refine ⟨_, rfl, rfl, _, rfl, ite2 (fun e6 => ?_) (fun e6 => ?_)⟩
        · have dn : e.2 = true := by
            cases h2 : e.2 with
            | true => rfl
            | false =>
              rw [h2] at e6
              exact absurd (V.str.inj (of_decide_eq_true e6)) (by decide +kernel)
          rw [if_pos dn] at q
          exact ⟨_, rfl, _, rfl, q G k⟩
        · have dn : ¬ e.2 = true := fun h2 => by
            rw [h2] at e6
            exact e6 (decide_eq_true rfl)
          rw [if_neg dn] at q
          exact ⟨_, rfl, q G k⟩
      · have ez : g e.1 = 0 := by simpa using e5
        refine ⟨_, _, _, rfl, k, fun j e' lt he' => ?_⟩
        rcases Nat.lt_succ_iff_lt_or_eq.mp lt with lt | rfl
        · exact z j e' lt he'
        · rw [he] at he'
          cases he'
          exact ez
    · rintro σ G ⟨y2, y3, y4, rfl, k, z⟩
      have e0 : sgE g E = 0 := by
        rw [sgE_zero (i := xs.length) z, lE, List.drop_length]
        rfl
      rw [e0] at q
      exact q G k
end
end K18

set_option Elab.async false
set_option linter.all false
set_option maxRecDepth 100000
set_option maxHeartbeats 8000000
namespace K18
open PySem PySem.Spec L2 PSG PSS
open PyProof.Rows (IntsAre AllBare)
abbrev s_Order_sign : Stmt := inClass (topS 27) 6
theorem sc_Order_sign : FnScope ["self", "signs"] ["self", "signs"] (defScope s_Order_sign) := ⟨rfl, rfl, rfl, by decide +kernel, rfl, by decide +kernel, by decide +kernel⟩
abbrev s_Order_entries : Stmt := inClass (topS 27) 1
theorem sc_Order_entries : FnScope ["self"] ["self"] (defScope s_Order_entries) := ⟨rfl, rfl, rfl, by decide +kernel, rfl, by decide +kernel, by decide +kernel⟩
abbrev s_Order_columns : Stmt := inClass (topS 27) 2
theorem sc_Order_columns : FnScope ["self", "column", "_"] ["self"] (defScope s_Order_columns) := ⟨rfl, rfl, rfl, by decide +kernel, rfl, by decide +kernel, by decide +kernel⟩

/-- an Order of these entries stands at p -/
structure OrdAt (C : Addr) (H : Hp) (p : Addr) (E : List Ent) : Prop where
  ex : ∃ dx t xs, H p = some (.ins C dx [("_entries", .ref t)]) ∧ H t = some (.tup xs) ∧ EntsAt H xs E
theorem OrdAt.same {C p : Addr} {H H' : Hp} {E : List Ent} (h : OrdAt C H p E) (k : Same H H') : OrdAt C H' p E := by
  obtain ⟨dx, t, xs, a, b, c⟩ := h.ex
  exact ⟨dx, t, xs, k _ _ a, k _ _ b, c.mono fun _ _ e => k _ _ e⟩
structure OrdC (K : PySem.W.Frag) (mg : Str → Option Value) (C : Addr) : Prop where
  cl : Cls K C
  nE : NoAttr K C "_entries"
  glob : mg "Order" = some (.ref C)
section
variable {P : Program} {w : World} {K : PySem.W.Frag} {mg : Str → Option Value} {base : Heap}
def spOSign (C : Addr) : Sp := fun vs H Q _ => ∃ (p d : Addr) (E : List Ent) (g : Str → Int), vs = [.ref p, .ref d] ∧ OrdAt C H p E ∧ GivesS H d g E ∧ ∀ H', Same H H' → Q (.int (sgE g E)) H'
theorem ok_osign {C f f1 : Addr} {fd d1 : FuncData} (F : Fun K "sign" "Order.sign" s_Order_sign f fd) (O : OrdC K mg C) (F_sign_by : Fun K "sign_by" "sign_by" s_sign_by f1 d1) (b_sign_by : Binds K d1 ["entries", "signs"] []) (g_sign_by : mg "sign_by" = some (.ref f1)) :
    FnOk P w K mg base CX0 2 f fd ["self", "signs"] (spOSign C) := by
  have sc := sc_Order_sign
  have G_sign_by : FnOk P w K mg base CX0 1 f1 d1 _ spBy := ok_by F_sign_by
  refine F.ok sc (fun vs H Q E h => ?_) (fun cdv A outer s H vs Q E hr h => ?_)
  · obtain ⟨p, d, E, g, rfl, _⟩ := h
    rfl
  · obtain ⟨p, d, E, g, rfl, ho, hg, q⟩ := h
    obtain ⟨dx, t, xs, a, b, c⟩ := ho.ex
    refine ⟨_, (pss_one (ps_ret (pe_call G_sign_by (hr.mono (by decide)) (by rfl) g_sign_by F_sign_by.kp b_sign_by .nil pass0 (pa_cons (pe_fld (pv 0) rfl) (pa_cons (pv 1) pa_nil))))), ?_⟩
    exact ⟨_, rfl, p, C, dx, _, _, rfl, a, O.cl, O.nE, rfl, _, rfl, t, d, xs, E, g, rfl, b, c, hg, q⟩
end
end K18

set_option Elab.async false
set_option linter.all false
set_option maxRecDepth 100000
set_option maxHeartbeats 8000000
namespace K18
open PySem PySem.Spec L2 PSG PSS
open PyProof.Rows (IntsAre AllBare)
abbrev s_entries_in : Stmt := topS 23
theorem sc_entries_in : FnScope ["order"] ["order"] (defScope s_entries_in) := ⟨rfl, rfl, rfl, by decide +kernel, rfl, by decide +kernel, by decide +kernel⟩

/-- a list or a tuple of entries -/
def SeqE (H : Hp) (v : V) (E : List Ent) : Prop := ∃ a xs, v = .ref a ∧ (H a = some (.lst xs) ∨ H a = some (.tup xs)) ∧ EntsAt H xs E
theorem SeqE.same {H H' : Hp} {v : V} {E : List Ent} (h : SeqE H v E) (k : Same H H') : SeqE H' v E := by
  obtain ⟨a, xs, e, h, c⟩ := h
  exact ⟨a, xs, e, h.elim (fun z => .inl (k _ _ z)) (fun z => .inr (k _ _ z)), c.mono fun _ _ e => k _ _ e⟩
def ArgE (C : Addr) (H : Hp) (v : V) (E : List Ent) : Prop := SeqE H v E ∨ ∃ p, v = .ref p ∧ OrdAt C H p E
/-- what the kit says of the class when asked whether a thing is one -/
structure OrdI (K : PySem.W.Frag) (C : Addr) : Prop where
  kL : PySem.W.kitOne K (.type "list") (.ref C) = some false
  kT : PySem.W.kitOne K (.type "tuple") (.ref C) = some false
  i1 : PySem.W.findIn K (.ref C) "__class__" = some (some (.builtin "object.__class__"))
  i2 : PySem.W.specialIn K (.builtin "object.__class__") "__get__" = some (some (.builtin "getset_descriptor.__get__"))
  i3 : PySem.W.takesIn K (.builtin "object.__class__") = some true
  i4 : PySem.W.mroIn K C (.type "object") = some true
section
variable {P : Program} {w : World} {K : PySem.W.Frag} {mg : Str → Option Value} {base : Heap}
def spEin (C : Addr) : Sp := fun vs H Q _ => ∃ (v : V) (E : List Ent), vs = [v] ∧ ArgE C H v E ∧ ∀ u, SeqE H u E → Q u H
theorem ok_ein {C f pE fE : Addr} {fd dE : FuncData} (F : Fun K "entries_in" "entries_in" s_entries_in f fd) (T : Blt mg) (O : OrdC K mg C) (I : OrdI K C) (PO_entries : PropOf K C "entries" pE fE) (G_entries : FnOk P w K mg base CX0 1 fE dE ["self"] (getSp C "_entries")) (b_entries : Binds K dE ["self"] []) :
    FnOk P w K mg base CX0 3 f fd ["order"] (spEin C) := by
  have sc := sc_entries_in
  refine F.ok sc (fun vs H Q E h => ?_) (fun cdv A outer s H vs Q E hr h => ?_)
  · obtain ⟨v, E, rfl, _⟩ := h
    rfl
  · obtain ⟨v, E, rfl, ho, q⟩ := h
    refine ⟨_, (pss_one (ps_ret (pe_ifExp (pt_val (pe_callB call_isi (by rfl) T.n_isinstance (by decide +kernel) (pa_cons (pv 0) (pa_cons (pe_glob (v := .ref _) (by rfl) O.glob rfl) pa_nil)))) (pe_prop (pv 0) O.cl PO_entries G_entries (hr.mono (by decide)) b_entries .nil pass0 rfl) (pv 0)))), ?_⟩
    rcases ho with ⟨a, xs, rfl, hs, c⟩ | ⟨p, rfl, ho⟩
    · rcases hs with hs | hs
      · exact ⟨_, rfl, .ref a, .ref C, _, _, false, rfl, .own C, .base (.lst hs), I.kL, _, rfl, iteF ⟨_, rfl, q _ ⟨a, xs, rfl, .inl hs, c⟩⟩⟩
      · exact ⟨_, rfl, .ref a, .ref C, _, _, false, rfl, .own C, .base (.tup hs), I.kT, _, rfl, iteF ⟨_, rfl, q _ ⟨a, xs, rfl, .inr hs, c⟩⟩⟩
    · obtain ⟨dx, t, xs, a, b, c⟩ := ho.ex
      have same : PySem.W.kitOne K (.ref C) (.ref C) = some true := by
        unfold PySem.W.kitOne
        rw [if_pos (by simp)]
      refine ⟨_, rfl, .ref p, .ref C, _, _, true, rfl, .own C, .base (.ins a O.cl I.i1 I.i2 I.i3 I.i4), same, _, rfl, iteT ?_⟩
      exact ⟨_, rfl, p, dx, _, rfl, a, p, dx, _, _, rfl, a, rfl, q _ ⟨t, xs, rfl, .inr b, c⟩⟩
end
end K18

set_option Elab.async false
set_option linter.all false
set_option maxRecDepth 100000
set_option maxHeartbeats 8000000
namespace K18
open PySem PySem.Spec L2 PSG PSS
open PyProof.Rows (IntsAre AllBare)
abbrev s_first_wrong_entry : Stmt := topS 22
theorem sc_first_wrong_entry : FnScope ["entries", "earlier", "position", "entry"] ["entries"] (defScope s_first_wrong_entry) := ⟨rfl, rfl, rfl, by decide +kernel, rfl, by decide +kernel, by decide +kernel⟩
abbrev s_Order___init__ : Stmt := inClass (topS 27) 0
theorem sc_Order___init__ : FnScope ["self", "entries", "listed", "wrong", "column", "direction"] ["self", "entries"] (defScope s_Order___init__) := ⟨rfl, rfl, rfl, by decide +kernel, rfl, by decide +kernel, by decide +kernel⟩

section
variable {P : Program} {w : World} {K : PySem.W.Frag} {mg : Str → Option Value} {base : Heap}
def spLst : Sp := fun vs H Q _ => ∃ (v : V) (E : List Ent), vs = [v] ∧ SeqE H v E ∧ ∀ H', Same H H' → Q (.bl true) H'
theorem ok_listing {f : Addr} {fd : FuncData} (F : Fun K "is_listing" "is_listing" s_is_listing f fd) (T : Blt mg) : FnOk P w K mg base CX0 1 f fd ["value"] spLst := by
  have sc := sc_is_listing
  refine F.ok sc (fun vs H Q E h => ?_) (fun cdv A outer s H vs Q E hr h => ?_)
  · obtain ⟨v, E, rfl, _⟩ := h
    rfl
  · obtain ⟨v, E, rfl, ⟨a, xs, rfl, hs, c⟩, q⟩ := h
    refine ⟨_, (pss_one (ps_ret (pe_callB call_isiT (by rfl) T.n_isinstance (by decide +kernel) (pa_cons (pv 0) (pa_cons (pe_tup (pa_cons (pe_bltn (v := .ty "list") (by rfl) T.n_list (by decide +kernel) rfl) (pa_cons (pe_bltn (v := .ty "tuple") (by rfl) T.n_tuple (by decide +kernel) rfl) pa_nil))) pa_nil))))), ?_⟩
    refine ⟨_, rfl, (by show 2 ≤ sizeLine; decide), fun p hp => ?_⟩
    have k : Same H (upd H p (.tup [.ty "list", .ty "tuple"])) := same_new hp
    rcases hs with hs | hs
    · exact ⟨.ref a, p, _, _, _, true, rfl, upd_same, .cons (.ty _) (.cons (.ty _) .nil), .base (.lst (k _ _ hs)), by kernel_rfl, q _ k⟩
    · exact ⟨.ref a, p, _, _, _, true, rfl, upd_same, .cons (.ty _) (.cons (.ty _) .nil), .base (.tup (k _ _ hs)), by kernel_rfl, q _ k⟩
/-- entries that an Order takes -/
structure EOk (E : List Ent) : Prop where
  col : ∀ e ∈ E, Col e.1
  nd : (E.map (·.1)).Nodup
  hi : E.length ≤ 12
def spWrong : Sp := fun vs H Q _ => ∃ (v : V) (E : List Ent), vs = [v] ∧ SeqE H v E ∧ EOk E ∧ ∀ H', Same H H' → Q .non H'
def spOInit (C : Addr) : Sp := fun vs H Q _ => ∃ (p dx : Addr) (v : V) (E : List Ent), vs = [.ref p, v] ∧ H p = some (.ins C dx []) ∧ ArgE C H v E ∧ EOk E ∧ ∀ H', OrdAt C H' p E → (∀ b o, b ≠ p → H b = some o → H' b = some o) → Q .non H'
theorem ok_oinit {C f f1 f2 f3 : Addr} {fd d1 d2 d3 : FuncData} {dvs : List V} {kws : List (Str × V)} (F : FunD K "__init__" "Order.__init__" (defArgs s_Order___init__) (defBody s_Order___init__) (defScope s_Order___init__) dvs kws f fd) (T : Blt mg) (O : OrdC K mg C)
    (F_entries_in : Fun K "entries_in" "entries_in" s_entries_in f1 d1) (b_entries_in : Binds K d1 ["order"] []) (g_entries_in : mg "entries_in" = some (.ref f1)) (G_entries_in : FnOk P w K mg base CX0 3 f1 d1 ["order"] (spEin C))
    (F_is_listing : Fun K "is_listing" "is_listing" s_is_listing f2 d2) (b_is_listing : Binds K d2 ["value"] []) (g_is_listing : mg "is_listing" = some (.ref f2))
    (F_first_wrong_entry : Fun K "first_wrong_entry" "first_wrong_entry" s_first_wrong_entry f3 d3) (b_first_wrong_entry : Binds K d3 ["entries"] []) (g_first_wrong_entry : mg "first_wrong_entry" = some (.ref f3)) (G_first_wrong_entry : FnOk P w K mg base CX0 4 f3 d3 ["entries"] spWrong) :
    FnOk P w K mg base CX0 5 f fd ["self", "entries"] (spOInit C) := by
  have sc := sc_Order___init__
  have G_is_listing : FnOk P w K mg base CX0 1 f2 d2 ["value"] spLst := ok_listing F_is_listing T
  refine FunD.ok F sc (fun vs H Q E h => ?_) (fun cdv A outer s H vs Q E hr h => ?_)
  · obtain ⟨p, dx, v, E, rfl, _⟩ := h
    rfl
  · obtain ⟨p, dx, v, E, rfl, hp, hv, hE, q⟩ := h
    refine ⟨_, (pss_cons (ps_set (i := 2) sc.nd rfl (.inl rfl) (pe_call G_entries_in (hr.mono (by decide)) (by rfl) g_entries_in F_entries_in.kp b_entries_in .nil pass0 (pa_cons (pv 1) pa_nil)))
      (pss_cons (ps_if (pt_not (pt_val (pe_call G_is_listing (hr.mono (by decide)) (by rfl) g_is_listing F_is_listing.kp b_is_listing .nil pass0 (pa_cons (pv 2) pa_nil)))) (pss_one ps_never) pss_nil)
      (pss_cons (ps_set (i := 3) sc.nd rfl (.inl rfl) (pe_call G_first_wrong_entry (hr.mono (by decide)) (by rfl) g_first_wrong_entry F_first_wrong_entry.kp b_first_wrong_entry .nil pass0 (pa_cons (pv 2) pa_nil)))
      (pss_cons (ps_if (pt_cmpR op_notN (pv 3) pe_non (nomark _)) (pss_one ps_never) pss_nil)
      (pss_one (ps_fld (pv 0) (pe_callTy call_tuple_of (by rfl) T.n_tuple (by decide +kernel) (pa_cons (pe_lc (own := [("column", 4), ("direction", 5)]) (g := gTup K 2 _) (tt := tYes) (by rfl) sc.nd (pi_or (pi_list (pv 2)) (pi_tup (pv 2))) (blkOk_by (own := [("column", 4), ("direction", 5)]) (N := ["self", "entries", "listed", "wrong", "column", "direction"]) (sc := defScope s_Order___init__) (by decide +kernel)) (fun _ _ _ _ _ => pg_tup (by rfl) (pgs_cons (pg_name (i := 4) sc.nd rfl (Or.inl rfl)) (pgs_cons (pg_name (i := 5) sc.nd rfl (Or.inl rfl)) pgs_nil))) (fun _ _ _ _ _ => pts_nil) (fun _ _ _ _ _ => (pe_tup (pa_cons (pv 4) (pa_cons (pv 5) pa_nil))))) pa_nil)) rfl)))))), ?_⟩
    refine ⟨_, rfl, v, E, rfl, hv, fun u hu => ?_⟩
    refine ⟨_, rfl, u, E, rfl, hu, fun H1 s1 => ⟨_, rfl, ite2 (fun e => ?_) (fun e => ?_)⟩⟩
    · cases e
    · refine ⟨_, rfl, u, E, rfl, hu.same s1, hE, fun H2 s2 => ?_⟩
      have k2 := s1.trans s2
      obtain ⟨a, xs, rfl, hs, c⟩ := hu.same k2
      have hq : SqL K H2 a xs ∨ SqT K H2 a xs := hs.elim (fun z => .inl (SqL.of z)) fun z => .inr (SqT.of z)
      refine ⟨_, rfl, rfl, _, rfl, ite2 (fun e2 => ?_) (fun e2 => ?_)⟩
      · simp at e2
      · have lE := c.len
        have hi := hE.hi
        refine seq_or rfl hq fun J wk D hD => w_wk wk (fun i G => Same H2 G ∧ ∃ ys, G D = some (.lst ys) ∧ EntsAt G ys (E.take i)) ⟨same_new hD, [], upd_same, trivial⟩ (fun i G _ z => z.1) ?_ ?_
        · rintro i x G hx ⟨k, ys, aD, cY⟩
          obtain ⟨e, he, b, rfl, hb⟩ := c.at hx
          refine ⟨b, _, rfl, SqT.of (k _ _ hb), rfl, _, _, rfl, _, _, rfl, rfl, ?_⟩
          refine ⟨rfl, _, rfl, _, rfl, (by show 2 ≤ sizeLine; decide), fun t ht => ?_⟩
          have ntD : D ≠ t := ne_of_none aD ht
          have ly : ys.length ≤ 12 := by
            rw [cY.len, List.length_take]
            omega
          refine ⟨ys, (upd_ne ntD).trans aD, by rw [sizeLine_eq]; omega, fun b o e => (upd_ne (ne_of_none e hD)).trans ((upd_ne (ne_of_none (k _ _ e) ht)).trans (k _ _ e)), ys ++ [.ref t], upd_same, ?_⟩
          rw [List.take_add_one, he]
          have mono : ∀ c zs, G c = some (.tup zs) → (upd (upd G t (.tup [.str e.1, .str (wy e.2)])) D (.lst (ys ++ [.ref t]))) c = some (.tup zs) := fun c zs e => by
            have ncD : c ≠ D := fun z => by
              rw [z, aD] at e
              cases e
            exact (upd_ne ncD).trans ((upd_ne (ne_of_none e ht)).trans e)
          exact (cY.mono mono).app ⟨⟨t, rfl, (upd_ne ntD.symm).trans upd_same⟩, trivial⟩
        · rintro G ⟨k, ys, aD, cY⟩
          rw [lE, List.take_length] at cY
          refine ⟨D, ys, rfl, .inl ⟨SqL.of aD, fun t ht => ?_⟩⟩
          have kG := k2.trans k
          have hpG := kG _ _ hp
          have npt : p ≠ t := ne_of_none hpG ht
          refine ⟨_, rfl, p, C, dx, [], rfl, (upd_ne npt).trans hpG, O.cl, O.nE, (by show 0 < 1000; decide), ?_⟩
          have mono : ∀ c zs, G c = some (.tup zs) → (upd (upd G t (.tup ys)) p (.ins C dx (putF "_entries" (.ref t) []))) c = some (.tup zs) := fun c zs e => by
            have ncp : c ≠ p := fun z => by
              rw [z, hpG] at e
              cases e
            exact (upd_ne ncp).trans ((upd_ne (ne_of_none e ht)).trans e)
          refine q _ ⟨dx, t, ys, upd_same, (upd_ne npt.symm).trans upd_same, cY.mono mono⟩ fun b o nb e => (upd_ne nb).trans ((upd_ne (ne_of_none (kG _ _ e) ht)).trans (kG _ _ e))
end
end K18

set_option Elab.async false
set_option linter.all false
set_option maxRecDepth 100000
set_option maxHeartbeats 8000000
namespace K18
open PySem PySem.Spec L2 PSG PSS
open PyProof.Rows (IntsAre AllBare)
abbrev s_Order_then : Stmt := inClass (topS 27) 4
theorem sc_Order_then : FnScope ["self", "other", "mine", "added", "entry"] ["self", "other"] (defScope s_Order_then) := ⟨rfl, rfl, rfl, by decide +kernel, rfl, by decide +kernel, by decide +kernel⟩
abbrev s_Order_backwards : Stmt := inClass (topS 27) 5
theorem sc_Order_backwards : FnScope ["self", "column", "direction"] ["self"] (defScope s_Order_backwards) := ⟨rfl, rfl, rfl, by decide +kernel, rfl, by decide +kernel, by decide +kernel⟩

theorem SeqE.mk {H : Hp} {a : Addr} {xs : List V} {E : List Ent} (h : H a = some (.lst xs) ∨ H a = some (.tup xs)) (c : EntsAt H xs E) : SeqE H (.ref a) E := ⟨a, xs, rfl, h, c⟩
theorem same_make {H : Hp} {C x dx : Addr} (nx : H x = none) (nd : H dx = none) : Same H (upd (upd H dx (.own x)) x (.ins C dx [])) := fun b o e => (upd_ne (ne_of_none e nx)).trans ((upd_ne (ne_of_none e nd)).trans e)
section
variable {P : Program} {w : World} {K : PySem.W.Frag} {mg : Str → Option Value} {base : Heap}
def spCols (C : Addr) : Sp := fun vs H Q _ => ∃ (p : Addr) (E : List Ent), vs = [.ref p] ∧ OrdAt C H p E ∧ E.length ≤ 12 ∧ ∀ t H', Same H H' → H' t = some (.tup (E.map fun e => V.str e.1)) → Q (.ref t) H'
theorem ok_cols {C f : Addr} {fd : FuncData} (F : Fun K "columns" "Order.columns" s_Order_columns f fd) (T : Blt mg) (O : OrdC K mg C) : FnOk P w K mg base CX0 1 f fd ["self"] (spCols C) := by
  have sc := sc_Order_columns
  refine F.ok sc (fun vs H Q E h => ?_) (fun cdv A outer s H vs Q E hr h => ?_)
  · obtain ⟨p, E, rfl, _⟩ := h
    rfl
  · obtain ⟨p, E, rfl, ho, hi, q⟩ := h
    obtain ⟨dx, t, xs, a, b, c⟩ := ho.ex
    have lE := c.len
    refine ⟨_, (pss_one (ps_ret (pe_callTy call_tuple_of (by rfl) T.n_tuple (by decide +kernel) (pa_cons (pe_lc (own := [("column", 1), ("_", 2)]) (g := gTup K 2 _) (tt := tYes) (by rfl) sc.nd (pi_tup (pe_fld (pv 0) rfl)) (blkOk_by (own := [("column", 1), ("_", 2)]) (N := ["self", "column", "_"]) (sc := defScope s_Order_columns) (by decide +kernel)) (fun _ _ _ _ _ => pg_tup (by rfl) (pgs_cons (pg_name (i := 1) sc.nd rfl (Or.inl rfl)) (pgs_cons (pg_name (i := 2) sc.nd rfl (Or.inl rfl)) pgs_nil))) (fun _ _ _ _ _ => pts_nil) (fun _ _ _ _ _ => (pv 1))) pa_nil)))), ?_⟩
    refine ⟨_, rfl, p, C, dx, _, _, rfl, a, O.cl, O.nE, rfl, t, rfl, ⟨_, SqT.of b⟩, fun D hD => w_tup (xs := xs) (fun i G => Same H G ∧ G D = some (.lst ((E.take i).map fun e => V.str e.1))) ⟨same_new hD, upd_same⟩ (fun i G _ z => SqT.of (z.1 _ _ b)) ?_ ?_⟩
    · rintro i x G hx ⟨k, aD⟩
      obtain ⟨e, he, b2, rfl, hb⟩ := c.at hx
      refine ⟨b2, _, rfl, SqT.of (k _ _ hb), rfl, _, _, rfl, _, _, rfl, rfl, ?_⟩
      refine ⟨rfl, _, rfl, _, aD, by rw [List.length_map, List.length_take, sizeLine_eq]; omega, fun b o e => (upd_ne (ne_of_none e hD)).trans (k _ _ e), ?_⟩
      rw [upd_same, List.take_add_one, he, List.map_append]
      rfl
    · rintro G ⟨k, aD⟩
      rw [lE, List.take_length] at aD
      exact ⟨D, _, rfl, .inl ⟨SqL.of aD, fun t ht => q t _ (k.trans (same_new ht)) upd_same⟩⟩
def flipE (e : Ent) : Ent := (e.1, !e.2)
def spBack (C : Addr) : Sp := fun vs H Q _ => ∃ (p : Addr) (E : List Ent), vs = [.ref p] ∧ OrdAt C H p E ∧ EOk E ∧ ∀ x H', Same H H' → OrdAt C H' x (E.map flipE) → Q (.ref x) H'
theorem ok_back {C f fI : Addr} {fd dI : FuncData} (F : Fun K "backwards" "Order.backwards" s_Order_backwards f fd) (T : Blt mg) (O : OrdC K mg C) (M_Order : Mk K C fI) (b_Order___init__ : Binds K dI ["self", "entries"] []) (G_Order___init__ : FnOk P w K mg base CX0 5 fI dI ["self", "entries"] (spOInit C)) : FnOk P w K mg base CX0 7 f fd ["self"] (spBack C) := by
  have sc := sc_Order_backwards
  refine F.ok sc (fun vs H Q E h => ?_) (fun cdv A outer s H vs Q E hr h => ?_)
  · obtain ⟨p, E, rfl, _⟩ := h
    rfl
  · obtain ⟨p, E, rfl, ho, hE, q⟩ := h
    have hi := hE.hi
    obtain ⟨dx, t, xs, a, b, c⟩ := ho.ex
    have lE := c.len
    refine ⟨_, (pss_one (ps_ret (pe_make M_Order G_Order___init__ (hr.mono (by decide)) (by rfl) O.glob b_Order___init__ .nil pass0 (pa_cons (pe_lc (own := [("column", 1), ("direction", 2)]) (g := gTup K 2 _) (tt := tYes) (by rfl) sc.nd (pi_tup (pe_fld (pv 0) rfl)) (blkOk_by (own := [("column", 1), ("direction", 2)]) (N := ["self", "column", "direction"]) (sc := defScope s_Order_backwards) (by decide +kernel)) (fun _ _ _ _ _ => pg_tup (by rfl) (pgs_cons (pg_name (i := 1) sc.nd rfl (Or.inl rfl)) (pgs_cons (pg_name (i := 2) sc.nd rfl (Or.inl rfl)) pgs_nil))) (fun _ _ _ _ _ => pts_nil) (fun _ _ _ _ _ => (pe_tup (pa_cons (pv 1) (pa_cons (pe_ifExp (pt_cmpR op_eq (pv 2) pe_str (nomark _)) pe_str pe_str) pa_nil))))) pa_nil)))), ?_⟩
    refine ⟨_, rfl, p, C, dx, _, _, rfl, a, O.cl, O.nE, rfl, t, rfl, ⟨_, SqT.of b⟩, fun D hD => w_tup (xs := xs) (fun i G => Same H G ∧ ∃ ys, G D = some (.lst ys) ∧ EntsAt G ys ((E.take i).map flipE)) ⟨same_new hD, [], upd_same, trivial⟩ (fun i G _ z => SqT.of (z.1 _ _ b)) ?_ ?_⟩
    · rintro i x G hx ⟨k, ys, aD, cY⟩
      obtain ⟨e, he, b2, rfl, hb⟩ := c.at hx
      refine ⟨b2, _, rfl, SqT.of (k _ _ hb), rfl, _, _, rfl, _, _, rfl, rfl, ?_⟩
      have ly : ys.length ≤ 12 := by
        rw [cY.len, List.length_map, List.length_take]
        omega
      have made : ∀ (z : Bool), z = !e.2 → ∀ t, G t = none → ∃ zs, upd G t (.tup [.str e.1, .str (wy z)]) D = some (.lst zs) ∧ zs.length < sizeLine ∧ (∀ b o, H b = some o → upd (upd G t (.tup [.str e.1, .str (wy z)])) D (.lst (zs ++ [.ref t])) b = some o) ∧ ∃ us, upd (upd G t (.tup [.str e.1, .str (wy z)])) D (.lst (zs ++ [.ref t])) D = some (.lst us) ∧ EntsAt (upd (upd G t (.tup [.str e.1, .str (wy z)])) D (.lst (zs ++ [.ref t]))) us ((E.take (i + 1)).map flipE) := fun z hz t ht => by
        have ntD : D ≠ t := ne_of_none aD ht
        refine ⟨ys, (upd_ne ntD).trans aD, by rw [sizeLine_eq]; omega, fun b o e => (upd_ne (ne_of_none e hD)).trans ((upd_ne (ne_of_none (k _ _ e) ht)).trans (k _ _ e)), ys ++ [.ref t], upd_same, ?_⟩
        rw [List.take_add_one, he, List.map_append]
        have mono : ∀ c zs, G c = some (.tup zs) → (upd (upd G t (.tup [.str e.1, .str (wy z)])) D (.lst (ys ++ [.ref t]))) c = some (.tup zs) := fun c zs e => by
          have ncD : c ≠ D := fun z => by
            rw [z, aD] at e
            cases e
          exact (upd_ne ncD).trans ((upd_ne (ne_of_none e ht)).trans e)
        exact (cY.mono mono).app ⟨⟨t, rfl, by rw [hz]; exact (upd_ne ntD.symm).trans upd_same⟩, trivial⟩
      refine ⟨rfl, _, rfl, _, rfl, rfl, _, rfl, ite2 (fun e2 => ?_) (fun e2 => ?_)⟩
      · have dn : e.2 = true := by
          cases h2 : e.2 with
          | true => rfl
          | false =>
            rw [h2] at e2
            exact absurd (V.str.inj (of_decide_eq_true e2)) (by decide +kernel)
        exact ⟨(by show 2 ≤ sizeLine; decide), fun t ht => made false (by rw [dn]; rfl) t ht⟩
      · have dn : e.2 = false := by
          cases h2 : e.2 with
          | false => rfl
          | true =>
            rw [h2] at e2
            exact absurd (decide_eq_true rfl) e2
        exact ⟨(by show 2 ≤ sizeLine; decide), fun t ht => made true (by rw [dn]; rfl) t ht⟩
    · rintro G ⟨k, ys, aD, cY⟩
      rw [lE, List.take_length] at cY
      intro x dx2 nx nd ne
      have k2 := same_make (C := C) nx nd
      refine ⟨x, dx2, .ref D, E.map flipE, rfl, upd_same, .inl ((SeqE.mk (.inl aD) cY).same k2), ⟨?_, ?_, by rw [List.length_map]; exact hi⟩, fun H' hO keep => ⟨rfl, q x H' ?_ hO⟩⟩
      · intro e he
        obtain ⟨e0, h0, rfl⟩ := List.mem_map.mp he
        exact hE.col e0 h0
      · rw [List.map_map]
        exact hE.nd
      · exact fun b o e => keep b o (ne_of_none (k _ _ e) nx) (k2 _ _ (k _ _ e))
def addE (E E2 : List Ent) : List Ent := E2.filter fun e => !decide (e.1 ∈ E.map (·.1))
def thenE (E E2 : List Ent) : List Ent := E ++ addE E E2
def spThen (C : Addr) : Sp := fun vs H Q _ => ∃ (p r : Addr) (E E2 : List Ent), vs = [.ref p, .ref r] ∧ OrdAt C H p E ∧ OrdAt C H r E2 ∧ EOk E2 ∧ EOk (thenE E E2) ∧ ∀ x H', Same H H' → OrdAt C H' x (thenE E E2) → Q (.ref x) H'
theorem ok_then {C f fI pE fE pC fC : Addr} {fd dI dE dC : FuncData} (F : Fun K "then" "Order.then" s_Order_then f fd) (T : Blt mg) (O : OrdC K mg C) (M_Order : Mk K C fI) (b_Order___init__ : Binds K dI ["self", "entries"] []) (G_Order___init__ : FnOk P w K mg base CX0 5 fI dI ["self", "entries"] (spOInit C))
    (PO_entries : PropOf K C "entries" pE fE) (G_entries : FnOk P w K mg base CX0 1 fE dE ["self"] (getSp C "_entries")) (b_entries : Binds K dE ["self"] [])
    (PO_columns : PropOf K C "columns" pC fC) (F_columns : Fun K "columns" "Order.columns" s_Order_columns fC dC) (b_columns : Binds K dC ["self"] []) : FnOk P w K mg base CX0 8 f fd ["self", "other"] (spThen C) := by
  have sc := sc_Order_then
  have G_columns : FnOk P w K mg base CX0 1 fC dC ["self"] (spCols C) := ok_cols F_columns T O
  refine F.ok sc (fun vs H Q E h => ?_) (fun cdv A outer s H vs Q E hr h => ?_)
  · obtain ⟨p, r, E, E2, rfl, _⟩ := h
    rfl
  · obtain ⟨p, r, E, E2, rfl, ho, ho2, hE2, hE, q⟩ := h
    have hi2 := hE2.hi
    have hi : E.length ≤ 12 := by
      have := hE.hi
      unfold thenE at this
      rw [List.length_append] at this
      omega
    obtain ⟨dx, t, xs, a, b, c⟩ := ho.ex
    refine ⟨_, (pss_cons (ps_set (i := 2) sc.nd rfl (.inr rfl) (pe_prop (pv 0) O.cl PO_columns G_columns (hr.mono (by decide)) b_columns .nil pass0 rfl))
      (pss_cons (ps_setLc (i := 3) (own := [("entry", 4)]) (g := gName 4) (by rfl) sc.nd rfl rfl (sw_true rfl rfl rfl (by decide +kernel)) (pi_tup (pe_prop (pe_make M_Order G_Order___init__ (hr.mono (by decide)) (by rfl) O.glob b_Order___init__ .nil pass0 (pa_cons (pv 1) pa_nil)) O.cl PO_entries G_entries (hr.mono (by decide)) b_entries .nil pass0 rfl)) (blkOk_by (own := [("entry", 4)]) (N := ["self", "other", "mine", "added", "entry"]) (sc := defScope s_Order_then) (by decide +kernel)) (fun _ _ _ _ _ => pg_name (i := 4) sc.nd rfl (Or.inl rfl)) (fun _ _ _ _ _ => pts_one (pt_cmpR (show OpR _ (compareOp .NotIn) (rIn K true) from op_notIn_seq) (pe_ix (show IxR _ (rIxT K) from ix_tup) (pv 4) pe_int (fun _ _ => rfl)) (pv 2) (by first | exact nomark _ | rfl))) (fun _ _ _ _ _ => (pv 4)))
      (pss_one (ps_ret (pe_make M_Order G_Order___init__ (hr.mono (by decide)) (by rfl) O.glob b_Order___init__ .nil pass0 (pa_cons (pe_lst (StX.pa_star (pe_fld (pv 0) rfl) (StX.pa_star (pv 3) pa_nil))) pa_nil)))))), ?_⟩
    refine ⟨_, rfl, p, dx, _, rfl, a, p, E, rfl, ho, hi, fun m H1 k1 aM => ?_⟩
    refine ⟨_, rfl, fun x dx2 nx nd ne => ?_⟩
    have k2 := same_make (C := C) nx nd
    refine ⟨x, dx2, .ref r, E2, rfl, upd_same, .inr ⟨r, rfl, (ho2.same k1).same k2⟩, hE2, fun H2 hO keep => ⟨rfl, ?_⟩⟩
    have k3 : Same H1 H2 := fun b o e => keep b o (ne_of_none e nx) (k2 _ _ e)
    obtain ⟨dy, t2, xs2, a2, b2, c2⟩ := hO.ex
    have lE2 := c2.len
    have aM2 := k3 _ _ aM
    refine ⟨x, dy, _, rfl, a2, x, dy, _, _, rfl, a2, rfl, t2, rfl, ⟨_, SqT.of b2⟩, fun D hD => w_tup (xs := xs2) (fun i G => Same H2 G ∧ ∃ ys, G D = some (.lst ys) ∧ EntsAt G ys (addE E (E2.take i)) ∧ ys.length ≤ i) ⟨same_new hD, [], upd_same, trivial, Nat.le_refl _⟩ (fun i G _ z => SqT.of (z.1 _ _ b2)) ?_ ?_⟩
    · rintro i x G hx ⟨k, ys, aD, cY, ly⟩
      obtain ⟨e, he, b3, rfl, hb⟩ := c2.at hx
      have fl : (E.map fun e => V.str e.1).all flatV = true := List.all_eq_true.mpr fun y hy => by
        obtain ⟨z, _, rfl⟩ := List.mem_map.mp hy
        rfl
      have im : inV (.str e.1) (E.map fun e => V.str e.1) = decide (e.1 ∈ E.map (·.1)) := by
        have := inV_str (x := e.1) (N := E.map (·.1))
        rwa [List.map_map] at this
      have lt : i < 12 := by
        have := (List.getElem?_eq_some_iff.mp hx).1
        omega
      have tk : addE E (E2.take (i + 1)) = addE E (E2.take i) ++ addE E [e] := by
        unfold addE
        rw [List.take_add_one, he, List.filter_append]
        rfl
      refine ⟨rfl, _, rfl, b3, _, 0, _, rfl, rfl, SqT.of (k _ _ hb), rfl, _, rfl, m, _, rfl, .inr (SqT.of (k _ _ aM2)), rfl, fl, _, rfl, ite2 (fun e2 => ?_) (fun e2 => ?_)⟩
      · rw [if_pos rfl, im] at e2
        refine ⟨_, rfl, ys, aD, by rw [sizeLine_eq]; omega, fun b o e => (upd_ne (ne_of_none e hD)).trans (k _ _ e), ys ++ [.ref b3], upd_same, ?_, by rw [List.length_append]; exact Nat.succ_le_succ ly⟩
        have ad : addE E [e] = [e] := by
          unfold addE
          rw [List.filter_cons, if_pos e2, List.filter_nil]
        rw [tk, ad]
        have mono : ∀ c zs, G c = some (.tup zs) → (upd G D (.lst (ys ++ [.ref b3]))) c = some (.tup zs) := fun c zs e => by
          have ncD : c ≠ D := fun z => by
            rw [z, aD] at e
            cases e
          exact (upd_ne ncD).trans e
        exact (cY.mono mono).app ⟨⟨b3, rfl, mono _ _ (k _ _ hb)⟩, trivial⟩
      · rw [if_pos rfl, im] at e2
        have ad : addE E [e] = [] := by
          unfold addE
          rw [List.filter_cons, if_neg e2, List.filter_nil]
        rw [tk, ad, List.append_nil]
        exact ⟨k, ys, aD, cY, by omega⟩
    · rintro G ⟨k, ys, aD, cY, ly⟩
      rw [lE2, List.take_length] at cY
      have kk : Same H G := (k1.trans k3).trans k
      have lx := c.len
      have lA : ys.length ≤ 12 := by omega
      refine ⟨_, rfl, p, C, dx, _, _, rfl, kk _ _ a, O.cl, O.nE, rfl, t, xs, rfl, .inl (SqT.of (kk _ _ b)), _, rfl, D, ys, rfl, .inr (SqL.of aD), (by rw [List.append_nil, List.length_append, sizeLine_eq]; omega), fun L hL => ?_⟩
      rw [List.append_nil]
      have kL : Same G (upd G L (.lst (xs ++ ys))) := same_new hL
      have cL : EntsAt (upd G L (.lst (xs ++ ys))) (xs ++ ys) (thenE E E2) := (c.mono fun _ _ e => kL _ _ (kk _ _ e)).app (cY.mono fun _ _ e => kL _ _ e)
      have aL : upd G L (.lst (xs ++ ys)) L = some (.lst (xs ++ ys)) := upd_same
      generalize upd G L (.lst (xs ++ ys)) = G2 at kL cL aL ⊢
      intro x2 dx3 nx2 nd2 ne2
      have k5 := same_make (C := C) nx2 nd2
      refine ⟨x2, dx3, .ref L, thenE E E2, rfl, upd_same, .inl ((SeqE.mk (.inl aL) cL).same k5), hE, fun H' hO' keep' => ⟨rfl, q x2 H' (fun b o e => ?_) hO'⟩⟩
      have e3 := kL _ _ (kk _ _ e)
      exact keep' b o (ne_of_none e3 nx2) (k5 _ _ e3)
end
end K18

set_option Elab.async false
set_option linter.all false
set_option maxRecDepth 100000
set_option maxHeartbeats 8000000
namespace K18
open PySem PySem.Spec L2 PSG PSS
open PyProof.Rows (IntsAre AllBare)

section
variable {P : Program} {w : World} {K : PySem.W.Frag} {mg : Str → Option Value} {base : Heap}
theorem ok_wrong {f f1 : Addr} {fd d1 : FuncData} (F : Fun K "first_wrong_entry" "first_wrong_entry" s_first_wrong_entry f fd) (T : Blt mg) (F_is_entry : Fun K "is_entry" "is_entry" s_is_entry f1 d1) (b_is_entry : Binds K d1 ["value"] []) (g_is_entry : mg "is_entry" = some (.ref f1)) (G_is_entry : FnOk P w K mg base CX0 3 f1 d1 ["value"] spIsEnt) :
    FnOk P w K mg base CX0 4 f fd ["entries"] spWrong := by
  have sc := sc_first_wrong_entry
  refine F.ok sc (fun vs H Q E h => ?_) (fun cdv A outer s H vs Q E hr h => ?_)
  · obtain ⟨v, E, rfl, _⟩ := h
    rfl
  · obtain ⟨v, E, rfl, ⟨a, xs, rfl, hs, c⟩, hE, q⟩ := h
    have hi := hE.hi
    have lE := c.len
    refine ⟨_, (pss_cons (ps_set (i := 1) sc.nd rfl (.inl rfl) pe_dnewK)
      (pss_cons (ps_for PassesOwn.never (by rfl) (pi_or (pi_enum (by rfl) T.n_enumerate (pa_cons (pv 0) pa_nil)) (PSE.pi_enumT (by rfl) T.n_enumerate (pa_cons (pv 0) pa_nil))) (pg_tup (by rfl) (pgs_cons (pg_name (i := 2) sc.nd rfl (.inl rfl)) (pgs_cons (pg_name (i := 3) sc.nd rfl (.inl rfl)) pgs_nil))) (pss_cons (ps_if (PW.pt (pw_or (pt_not (pt_val (pe_call G_is_entry (hr.mono (by decide)) (by rfl) g_is_entry F_is_entry.kp b_is_entry .nil pass0 (pa_cons (pv 3) pa_nil)))) (pw_or1 (pt_cmp (pc_din (hu_of hr) (pe_ix ix_tup (pv 3) pe_int (fun _ _ => rfl)) (pv 1)))))) (pss_one (ps_ret (pv 2))) pss_nil)
      (pss_one (ps_dput (hu_of hr) (pv 1) (pe_ix ix_tup (pv 3) pe_int (fun _ _ => rfl)) pe_bl rfl))))
      (pss_one (ps_ret pe_non)))), ?_⟩
    intro D hD
    have k0 : Same H (upd H D (.dK [])) := same_new hD
    rcases hs with hs | hs
    · refine .inl ⟨_, rfl, a, xs, rfl, SqL.of (k0 _ _ hs), for_enum (xs := xs) (fun i σ G => ∃ y2 y3, σ = [some (.ref a), some (.ref D), y2, y3] ∧ Same H G ∧ ∃ kvs : List (Key × V), G D = some (.dK kvs) ∧ (∀ x : Str, (valV kvs (Sum.inr x)).isSome = true → ∃ j e, j < i ∧ E[j]? = some e ∧ e.1 = x) ∧ kvs.length ≤ i) ⟨none, none, rfl, k0, [], upd_same, (fun x z => by cases z), Nat.le_refl _⟩ (fun i σ G ⟨_, _, _, k, _⟩ => SqL.of (k _ _ hs)) ?_ ?_⟩
      · rintro i x σ G T hx ⟨y2, y3, rfl, k, kvs, aD, hk, lk⟩ hT
        obtain ⟨e, he, b, rfl, hb⟩ := c.at hx
        have lt : i < E.length := (List.getElem?_eq_some_iff.mp he).1
        have nTD : D ≠ T := ne_of_none aD hT
        have aD1 : upd G T (.tup [.int (i : Nat), .ref b]) D = some (.dK kvs) := (upd_ne nTD).trans aD
        have kT : Same H (upd G T (.tup [.int (i : Nat), .ref b])) := k.trans (same_new hT)
        refine ⟨T, _, rfl, SqT.of upd_same, rfl, _, _, rfl, _, _, rfl, rfl, ?_⟩
        generalize upd G T (.tup [.int (i : Nat), .ref b]) = G1 at aD1 kT ⊢
        have col := hE.col e (List.mem_of_getElem? he)
        have nw : valV kvs (Sum.inr e.1) = none := by
          cases h0 : valV kvs (Sum.inr e.1) with
          | none => rfl
          | some v0 =>
            obtain ⟨j, e', lj, hj, ee⟩ := hk e.1 (by rw [h0]; rfl)
            have lt2 : j < E.length := by omega
            have m1 : (E.map (·.1))[j]? = some e.1 := by rw [List.getElem?_map, hj]; exact congrArg some ee
            have m2 : (E.map (·.1))[i]? = some e.1 := by rw [List.getElem?_map, he]; rfl
            have := (List.getElem?_inj (by rw [List.length_map]; exact lt2) hE.nd).mp (m1.trans m2.symm)
            omega
        refine ⟨_, rfl, .ref b, e, rfl, ⟨b, rfl, kT _ _ hb⟩, col, fun H2 s2 => ⟨_, rfl, ite2 (fun e2 => ?_) (fun e2 => ?_)⟩⟩
        · cases e2
        · have k2 := kT.trans s2
          have aD2 := s2 _ _ aD1
          refine ⟨_, rfl, b, _, 0, _, rfl, rfl, SqT.of (k2 _ _ hb), rfl, _, rfl, D, _, rfl, DGet.k (k := Sum.inr e.1) aD2, _, rfl, ite2 (fun e3 => ?_) (fun e3 => ?_)⟩
          · rw [nw] at e3
            cases e3
          · refine ⟨_, rfl, _, rfl, b, _, 0, _, rfl, rfl, SqT.of (k2 _ _ hb), rfl, D, _, rfl, DPut.k (k := Sum.inr e.1) aD2 (small1000 (by omega)), ?_⟩
            refine ⟨_, _, rfl, fun b o e => (upd_ne (ne_of_none e hD)).trans (k2 _ _ e), _, upd_same, fun x hx => ?_, ?_⟩
            · rw [valV_put] at hx
              by_cases ex : (Sum.inr x : Key) = Sum.inr e.1
              · exact ⟨i, e, Nat.lt_succ_self _, he, (Sum.inr.inj ex).symm⟩
              · rw [if_neg ex] at hx
                obtain ⟨j, e', lj, hj, ee⟩ := hk x hx
                exact ⟨j, e', Nat.lt_succ_of_lt lj, hj, ee⟩
            · rw [putK_new _ nw, List.length_append]
              exact Nat.succ_le_succ lk
      · rintro σ G ⟨y2, y3, rfl, k, _⟩
        exact q G k
    · refine .inr ⟨_, rfl, a, xs, rfl, SqT.of (k0 _ _ hs), PSE.for_enumT (xs := xs) (fun i σ G => ∃ y2 y3, σ = [some (.ref a), some (.ref D), y2, y3] ∧ Same H G ∧ ∃ kvs : List (Key × V), G D = some (.dK kvs) ∧ (∀ x : Str, (valV kvs (Sum.inr x)).isSome = true → ∃ j e, j < i ∧ E[j]? = some e ∧ e.1 = x) ∧ kvs.length ≤ i) ⟨none, none, rfl, k0, [], upd_same, (fun x z => by cases z), Nat.le_refl _⟩ (fun i σ G ⟨_, _, _, k, _⟩ => SqT.of (k _ _ hs)) ?_ ?_⟩
      · rintro i x σ G T hx ⟨y2, y3, rfl, k, kvs, aD, hk, lk⟩ hT
        obtain ⟨e, he, b, rfl, hb⟩ := c.at hx
        have lt : i < E.length := (List.getElem?_eq_some_iff.mp he).1
        have nTD : D ≠ T := ne_of_none aD hT
        have aD1 : upd G T (.tup [.int (i : Nat), .ref b]) D = some (.dK kvs) := (upd_ne nTD).trans aD
        have kT : Same H (upd G T (.tup [.int (i : Nat), .ref b])) := k.trans (same_new hT)
        refine ⟨T, _, rfl, SqT.of upd_same, rfl, _, _, rfl, _, _, rfl, rfl, ?_⟩
        generalize upd G T (.tup [.int (i : Nat), .ref b]) = G1 at aD1 kT ⊢
        have col := hE.col e (List.mem_of_getElem? he)
        have nw : valV kvs (Sum.inr e.1) = none := by
          cases h0 : valV kvs (Sum.inr e.1) with
          | none => rfl
          | some v0 =>
            obtain ⟨j, e', lj, hj, ee⟩ := hk e.1 (by rw [h0]; rfl)
            have lt2 : j < E.length := by omega
            have m1 : (E.map (·.1))[j]? = some e.1 := by rw [List.getElem?_map, hj]; exact congrArg some ee
            have m2 : (E.map (·.1))[i]? = some e.1 := by rw [List.getElem?_map, he]; rfl
            have := (List.getElem?_inj (by rw [List.length_map]; exact lt2) hE.nd).mp (m1.trans m2.symm)
            omega
        refine ⟨_, rfl, .ref b, e, rfl, ⟨b, rfl, kT _ _ hb⟩, col, fun H2 s2 => ⟨_, rfl, ite2 (fun e2 => ?_) (fun e2 => ?_)⟩⟩
        · cases e2
        · have k2 := kT.trans s2
          have aD2 := s2 _ _ aD1
          refine ⟨_, rfl, b, _, 0, _, rfl, rfl, SqT.of (k2 _ _ hb), rfl, _, rfl, D, _, rfl, DGet.k (k := Sum.inr e.1) aD2, _, rfl, ite2 (fun e3 => ?_) (fun e3 => ?_)⟩
          · rw [nw] at e3
            cases e3
          · refine ⟨_, rfl, _, rfl, b, _, 0, _, rfl, rfl, SqT.of (k2 _ _ hb), rfl, D, _, rfl, DPut.k (k := Sum.inr e.1) aD2 (small1000 (by omega)), ?_⟩
            refine ⟨_, _, rfl, fun b o e => (upd_ne (ne_of_none e hD)).trans (k2 _ _ e), _, upd_same, fun x hx => ?_, ?_⟩
            · rw [valV_put] at hx
              by_cases ex : (Sum.inr x : Key) = Sum.inr e.1
              · exact ⟨i, e, Nat.lt_succ_self _, he, (Sum.inr.inj ex).symm⟩
              · rw [if_neg ex] at hx
                obtain ⟨j, e', lj, hj, ee⟩ := hk x hx
                exact ⟨j, e', Nat.lt_succ_of_lt lj, hj, ee⟩
            · rw [putK_new _ nw, List.length_append]
              exact Nat.succ_le_succ lk
      · rintro σ G ⟨y2, y3, rfl, k, _⟩
        exact q G k
end
end K18

set_option Elab.async false
set_option linter.all false
set_option maxRecDepth 100000
set_option maxHeartbeats 8000000
namespace K18
open PySem PySem.Spec L2 PSG PSS
open PyProof.Rows (IntsAre AllBare)
abbrev s__law_due : Stmt := topS 39
theorem sc__law_due : FnScope ["_law_entries_here", "_law_one", "_law_other", "_law_name", "_law_way"] ["_law_entries_here", "_law_one", "_law_other"] (defScope s__law_due) := ⟨rfl, rfl, rfl, by decide +kernel, rfl, by decide +kernel, by decide +kernel⟩

def vOf : PyData → V
  | .int i => .int i
  | .str x => .str x
  | _ => .non
/-- a row: a value for each name; kk: which names hold texts -/
abbrev Row := Str → PyData
structure RowOk (N : List Str) (kk : Str → Bool) (r : Row) : Prop where
  val : ∀ x ∈ N, if kk x = true then ∃ s : Str, r x = .str s ∧ allLet s = true ∧ s.length ≤ 2 else ∃ i : Int, r x = .int i
def rowKV (N : List Str) (r : Row) : List (Key × V) := N.map fun x => (Sum.inr x, vOf (r x))
theorem valV_map {N : List Str} {f : Str → V} {x : Str} (h : x ∈ N) : valV (N.map fun x => ((Sum.inr x : Key), f x)) (Sum.inr x) = some (f x) := by
  induction N with
  | nil => cases h
  | cons y r ih =>
    rw [List.map_cons]
    by_cases e : y = x
    · rw [valV_pos (p := ((Sum.inr y : Key), f y)) (congrArg Sum.inr e), e]
    · rw [valV_neg (p := ((Sum.inr y : Key), f y)) (fun z => e (Sum.inr.inj z))]
      refine ih ?_
      rcases List.mem_cons.mp h with rfl | h
      · exact absurd rfl e
      · exact h
theorem valV_none {N : List Str} {f : Str → V} {x : Str} (h : x ∉ N) : valV (N.map fun x => ((Sum.inr x : Key), f x)) (Sum.inr x) = none := by
  induction N with
  | nil => rfl
  | cons y r ih =>
    rw [List.map_cons, valV_neg (p := ((Sum.inr y : Key), f y)) (fun z => h (by rw [Sum.inr.inj z]; exact List.mem_cons_self))]
    exact ih fun z => h (List.mem_cons_of_mem _ z)
/-- two values in one column -/
theorem two_vals {N : List Str} {kk : Str → Bool} {r q : Row} (hr : RowOk N kk r) (hq : RowOk N kk q) {x : Str} (h : x ∈ N) : (∃ i j, r x = .int i ∧ q x = .int j) ∨ ∃ s t, r x = .str s ∧ q x = .str t ∧ allLet s = true ∧ allLet t = true ∧ s.length ≤ 2 ∧ t.length ≤ 2 := by
  have a := hr.val x h
  have b := hq.val x h
  by_cases k : kk x = true
  · rw [if_pos k] at a b
    obtain ⟨s, e1, l1, n1⟩ := a
    obtain ⟨t, e2, l2, n2⟩ := b
    exact .inr ⟨s, t, e1, e2, l1, l2, n1, n2⟩
  · rw [if_neg k] at a b
    obtain ⟨i, e1⟩ := a
    obtain ⟨j, e2⟩ := b
    exact .inl ⟨i, j, e1, e2⟩
theorem lst_lt {a b : List Nat} (h : ¬ a < b) (n : a ≠ b) : b < a := by
  rcases List.le_iff_lt_or_eq.mp (List.not_lt.mp h) with z | z
  · exact z
  · exact absurd z.symm n
/-- the sign of two rows in a column -/
def gR (r q : Row) (x : Str) : Int := sgn (r x) (q x)
theorem str_ext {s t : Str} (h : s.cps.toList = t.cps.toList) : s = t := by
  cases s
  cases t
  exact congrArg Str.mk (Array.toList_inj.mp h)
theorem due_val {g : Int} {gt : Prop} [Decidable gt] {b : Bool} (h1 : gt → g = 1) (h2 : ¬ gt → g = -1) : (if b = true then -g else g) = if V.bl (decide gt) = V.bl (decide (V.str (wy b) = V.str "up")) then 1 else -1 := by
  have u1 : decide (V.str (wy true) = V.str "up") = false := by decide +kernel
  have u2 : decide (V.str (wy false) = V.str "up") = true := by decide +kernel
  by_cases z : gt
  · rw [h1 z, decide_eq_true z]
    cases b
    · rw [u2]; rfl
    · rw [u1]; rfl
  · rw [h2 z, decide_eq_false z]
    cases b
    · rw [u2]; rfl
    · rw [u1]; rfl
section
variable {P : Program} {w : World} {K : PySem.W.Frag} {mg : Str → Option Value} {base : Heap}
def spDue : Sp := fun vs H Q _ => ∃ (e a b : Addr) (xs : List V) (E : List Ent) (N : List Str) (kk : Str → Bool) (r q : Row), vs = [.ref e, .ref a, .ref b] ∧ H e = some (.lst xs) ∧ EntsAt H xs E ∧ (∀ e ∈ E, e.1 ∈ N) ∧ H a = some (.dK (rowKV N r)) ∧ H b = some (.dK (rowKV N q)) ∧ RowOk N kk r ∧ RowOk N kk q ∧ ∀ H', Same H H' → Q (.int (sgE (gR r q) E)) H'
theorem ok_due {f : Addr} {fd : FuncData} (F : Fun K "_law_due" "_law_due" s__law_due f fd) : FnOk P w K mg base CX0 1 f fd ["_law_entries_here", "_law_one", "_law_other"] spDue := by
  have sc := sc__law_due
  refine F.ok sc (fun vs H Q E h => ?_) (fun cdv A outer s H vs Q E hr h => ?_)
  · obtain ⟨e, a, b, xs, E, N, kk, r, q, rfl, _⟩ := h
    rfl
  · obtain ⟨e, a, b, xs, E, N, kk, r, qq, rfl, he, c, hs, ha, hb, or, oq, q⟩ := h
    have lE := c.len
    refine ⟨_, (pss_cons (ps_for PassesOwn.never (by rfl) (pi_list (pv 0)) (pg_tup (by rfl) (pgs_cons (pg_name (i := 3) sc.nd rfl (.inl rfl)) (pgs_cons (pg_name (i := 4) sc.nd rfl (.inl rfl)) pgs_nil))) (pss_one (ps_if (pt_cmpR op_ne (pe_dget (hu_of hr) (pv 1) (pv 3) (fun _ _ => rfl)) (pe_dget (hu_of hr) (pv 2) (pv 3) (fun _ _ => rfl)) (nomark _)) (pss_one (ps_ret (pe_ifExp (pt_cmpR op_eq (pe_cmpR (op_or op_gt op_gt_str) (pe_dget (hu_of hr) (pv 1) (pv 3) (fun _ _ => rfl)) (pe_dget (hu_of hr) (pv 2) (pv 3) (fun _ _ => rfl)) (nomark _)) (pe_cmpR op_eq (pv 4) pe_str (nomark _)) (nomark _)) pe_int (pe_un un_neg pe_int)))) pss_nil)))
      (pss_one (ps_ret pe_int))), ?_⟩
    refine ⟨_, rfl, e, rfl, ⟨_, SqL.of he⟩, for_list (K := K) (a := e) (xs := xs) (fun i σ G => ∃ y3 y4, σ = [some (.ref e), some (.ref a), some (.ref b), y3, y4] ∧ Same H G ∧ ∀ j e, j < i → E[j]? = some e → gR r qq e.1 = 0) ⟨none, none, rfl, Same.refl _, fun j e lt => by omega⟩ (fun i σ G _ ⟨_, _, _, k, _⟩ => SqL.of (k _ _ he)) ?_ ?_⟩
    · rintro i x σ G hx ⟨y3, y4, rfl, k, z⟩
      obtain ⟨en, hen, t, rfl, ht⟩ := c.at hx
      refine ⟨t, _, rfl, SqT.of (k _ _ ht), rfl, _, _, rfl, _, _, rfl, rfl, ?_⟩
      have mN := hs en (List.mem_of_getElem? hen)
      have ga : DGet G a (.str en.1) (some (vOf (r en.1))) := valV_map (f := fun x => vOf (r x)) mN ▸ DGet.k (k := Sum.inr en.1) (k _ _ ha)
      have gb : DGet G b (.str en.1) (some (vOf (qq en.1))) := valV_map (f := fun x => vOf (qq x)) mN ▸ DGet.k (k := Sum.inr en.1) (k _ _ hb)
      have ei : sgE (gR r qq) E = sgE (gR r qq) (E.drop i) := sgE_zero z
      have ed : E.drop i = en :: E.drop (i + 1) := by
        obtain ⟨lt, ee⟩ := List.getElem?_eq_some_iff.mp hen
        rw [← ee]
        exact List.drop_eq_getElem_cons lt
      rcases two_vals or oq mN with ⟨i0, j0, e1, e2⟩ | ⟨s0, t0, e1, e2, _⟩
      · skip
        rw [e1] at ga
        rw [e2] at gb
        have gs : gR r qq en.1 = if i0 < j0 then -1 else if j0 < i0 then 1 else 0 := by
          unfold gR
          rw [e1, e2]
          rfl
        refine ⟨_, rfl, _, rfl, a, _, rfl, ga, _, rfl, _, rfl, b, _, rfl, gb, rfl, _, rfl, ite2 (fun d => ?_) (fun d => ?_)⟩
        · have ne : ¬ i0 = j0 := fun z => by
            rw [z] at d
            simp [vOf] at d
          have h1 : j0 < i0 → gR r qq en.1 = 1 := fun z => by rw [gs, if_neg (by omega), if_pos z]
          have h2 : ¬ j0 < i0 → gR r qq en.1 = -1 := fun z => by
            rw [gs, if_pos (by omega)]
          have nz : ¬ gR r qq en.1 = 0 := by
            by_cases z : j0 < i0
            · rw [h1 z]
              decide
            · rw [h2 z]
              decide
          have val : sgE (gR r qq) E = if en.2 then -(gR r qq en.1) else gR r qq en.1 := by
            rw [ei, ed]
            exact if_neg nz
          rw [val, due_val h1 h2] at q
          refine ⟨_, rfl, _, rfl, a, _, rfl, ga, _, rfl, _, rfl, b, _, rfl, gb, .inl ⟨i0, j0, rfl, rfl, _, rfl, rfl, rfl, _, rfl, ite2 (fun d2 => ?_) (fun d2 => ?_)⟩⟩
          · rw [if_pos (of_decide_eq_true d2)] at q
            exact q G k
          · rw [if_neg (fun z => d2 (decide_eq_true z))] at q
            exact ⟨_, rfl, q G k⟩
        · have eq : i0 = j0 := by
            refine Classical.byContradiction fun ne => d ?_
            have n2 : ¬ (V.int i0 = V.int j0) := fun z => ne (by injection z)
            show (!decide (V.int i0 = V.int j0)) = true
            rw [decide_eq_false n2]
            rfl
          have ez : gR r qq en.1 = 0 := by
            rw [gs, eq, if_neg (Int.lt_irrefl j0), if_neg (Int.lt_irrefl j0)]
          refine ⟨_, _, rfl, k, fun j' e' lt he' => ?_⟩
          rcases Nat.lt_succ_iff_lt_or_eq.mp lt with lt | rfl
          · exact z j' e' lt he'
          · rw [hen] at he'
            cases he'
            exact ez
      · skip
        rw [e1] at ga
        rw [e2] at gb
        have gs : gR r qq en.1 = if s0.cps.toList < t0.cps.toList then -1 else if t0.cps.toList < s0.cps.toList then 1 else 0 := by
          unfold gR
          rw [e1, e2]
          rfl
        refine ⟨_, rfl, _, rfl, a, _, rfl, ga, _, rfl, _, rfl, b, _, rfl, gb, rfl, _, rfl, ite2 (fun d => ?_) (fun d => ?_)⟩
        · have ne : ¬ s0 = t0 := fun z => by
            rw [z] at d
            simp [vOf] at d
          have h1 : t0.cps.toList < s0.cps.toList → gR r qq en.1 = 1 := fun z => by rw [gs, if_neg (List.lt_asymm z), if_pos z]
          have h2 : ¬ t0.cps.toList < s0.cps.toList → gR r qq en.1 = -1 := fun z => by
            rw [gs, if_pos (lst_lt z fun y => ne (str_ext y.symm))]
          have nz : ¬ gR r qq en.1 = 0 := by
            by_cases z : t0.cps.toList < s0.cps.toList
            · rw [h1 z]
              decide
            · rw [h2 z]
              decide
          have val : sgE (gR r qq) E = if en.2 then -(gR r qq en.1) else gR r qq en.1 := by
            rw [ei, ed]
            exact if_neg nz
          rw [val, due_val h1 h2] at q
          refine ⟨_, rfl, _, rfl, a, _, rfl, ga, _, rfl, _, rfl, b, _, rfl, gb, .inr ⟨s0, t0, rfl, rfl, _, rfl, rfl, rfl, _, rfl, ite2 (fun d2 => ?_) (fun d2 => ?_)⟩⟩
          · rw [if_pos (of_decide_eq_true d2)] at q
            exact q G k
          · rw [if_neg (fun z => d2 (decide_eq_true z))] at q
            exact ⟨_, rfl, q G k⟩
        · have eq : s0 = t0 := by
            refine Classical.byContradiction fun ne => d ?_
            have n2 : ¬ (V.str s0 = V.str t0) := fun z => ne (by injection z)
            show (!decide (V.str s0 = V.str t0)) = true
            rw [decide_eq_false n2]
            rfl
          have ez : gR r qq en.1 = 0 := by
            rw [gs, eq, if_neg (List.lt_irrefl _), if_neg (List.lt_irrefl _)]
          refine ⟨_, _, rfl, k, fun j' e' lt he' => ?_⟩
          rcases Nat.lt_succ_iff_lt_or_eq.mp lt with lt | rfl
          · exact z j' e' lt he'
          · rw [hen] at he'
            cases he'
            exact ez
    · rintro σ G ⟨y3, y4, rfl, k, z⟩
      have e0 : sgE (gR r qq) E = 0 := by
        rw [sgE_zero (i := xs.length) z, lE, List.drop_length]
        rfl
      rw [e0] at q
      exact q G k
end
end K18

set_option Elab.async false
set_option linter.all false
set_option maxRecDepth 100000
set_option maxHeartbeats 8000000
namespace K18
open PySem PySem.Spec L2 PSG PSS
open PyProof.Rows (IntsAre AllBare)
abbrev s__law_signs : Stmt := topS 38
theorem sc__law_signs : FnScope ["_law_one", "_law_other", "_law_name"] ["_law_one", "_law_other"] (defScope s__law_signs) := ⟨rfl, rfl, rfl, by decide +kernel, rfl, by decide +kernel, by decide +kernel⟩

theorem merge_new : ∀ {more acc : List (Key × V)}, ((acc ++ more).map (·.1)).Nodup → mergeK acc more = acc ++ more
  | [], acc, _ => (List.append_nil acc).symm
  | p :: r, acc, h => by
    have e : valV acc p.1 = none := by
      cases z : valV acc p.1 with
      | none => rfl
      | some v =>
        have m := valV_in z
        rw [List.map_append, List.nodup_append] at h
        exact absurd rfl (h.2.2 _ m p.1 (List.mem_map_of_mem List.mem_cons_self))
    show mergeK (putK acc p.1 p.2) r = _
    rw [putK_new _ e]
    have h2 : acc ++ p :: r = (acc ++ [(p.1, p.2)]) ++ r := by simp
    rw [merge_new (by rw [← h2]; exact h), h2]
theorem wk_keys {H : Hp} {d : Addr} {o : Obj} {kvs : List (Key × V)} (h : H d = some (.frz o (.dK kvs))) : Wk (Itk d o kvs) H (kvs.map fun p => kV p.1) where
  go := fun G s i lt => ⟨s _ _ h, by rwa [List.length_map] at lt⟩
  yl := fun G s i x G' y => by
    obtain ⟨rfl, k, v, e, rfl⟩ := y
    exact ⟨rfl, by rw [List.getElem?_map, e]; rfl⟩
  st := fun G s => ⟨s _ _ h, by rw [List.length_map]; exact Nat.le_refl _⟩
theorem paired_at {α β : Type} {R : α → β → Prop} : ∀ {xs : List α} {ys : List β}, xs.length = ys.length → (∀ (j : Nat) x y, xs[j]? = some x → ys[j]? = some y → R x y) → Paired R xs ys
  | [], [], _, _ => .nil
  | x :: xs, y :: ys, l, h => .cons (h 0 x y rfl rfl) (paired_at (Nat.succ.inj l) fun j a b p q => h (j + 1) a b (by simpa using p) (by simpa using q))
theorem row_facts {N : List Str} {kk : Str → Bool} {r q : Row} {H : Hp} (hr : RowOk N kk r) (hq : RowOk N kk q) {x : Str} (h : x ∈ N) : Dt true H (vOf (r x)) (r x) ∧ Dt true H (vOf (q x)) (q x) ∧ Thing (r x) ∧ Thing (q x) ∧ kd (r x) ≠ 0 ∧ kd (r x) = kd (q x) := by
  rcases two_vals hr hq h with ⟨i, j, e1, e2⟩ | ⟨s, t, e1, e2, l1, l2, n1, n2⟩
  · rw [e1, e2]
    exact ⟨.int _, .int _, ⟨fun z ez => by cases ez⟩, ⟨fun z ez => by cases ez⟩, by show (1 : Nat) ≠ 0; decide, rfl⟩
  · rw [e1, e2, kd_yes ⟨l1, by omega⟩, kd_yes ⟨l2, by omega⟩]
    exact ⟨.str _, .str _, ⟨fun z ez => by cases ez; omega⟩, ⟨fun z ez => by cases ez; omega⟩, by decide, rfl⟩
section
variable {P : Program} {w : World} {K : PySem.W.Frag} {mg : Str → Option Value} {base : Heap}
def sgKV (N : List Str) (r q : Row) : List (Key × V) := N.map fun x => (Sum.inr x, .int (gR r q x))
def spSigns : Sp := fun vs H Q _ => ∃ (a b : Addr) (N : List Str) (kk : Str → Bool) (r q : Row), vs = [.ref a, .ref b] ∧ N.Nodup ∧ N.length ≤ 6 ∧ H a = some (.dK (rowKV N r)) ∧ H b = some (.dK (rowKV N q)) ∧ RowOk N kk r ∧ RowOk N kk q ∧ ∀ D H', H D = none → Same H H' → H' D = some (.dK (sgKV N r q)) → Q (.ref D) H'
theorem ok_signs {f f1 : Addr} {fd d1 : FuncData} (F : Fun K "_law_signs" "_law_signs" s__law_signs f fd) (T : Blt mg) (F_sign_of : Fun K "sign_of" "sign_of" s_sign_of f1 d1) (b_sign_of : Binds K d1 ["one", "other"] []) (g_sign_of : mg "sign_of" = some (.ref f1)) (G_sign_of : FnOk P w K mg base CX0 3 f1 d1 ["one", "other"] spSign) :
    FnOk P w K mg base CX0 4 f fd ["_law_one", "_law_other"] spSigns := by
  have sc := sc__law_signs
  refine F.ok sc (fun vs H Q E h => ?_) (fun cdv A outer s H vs Q E hr h => ?_)
  · obtain ⟨a, b, N, kk, r, q, rfl, _⟩ := h
    rfl
  · obtain ⟨a, b, N, kk, r, qq, rfl, nd, hi, ha, hb, or, oq, q⟩ := h
    refine ⟨_, (pss_one (ps_ret (pe_callTy (call_dictP rfl) (by rfl) T.n_dict (by decide +kernel) (pa_cons (pe_lock (pe_lc (own := [("_law_name", 2)]) (g := gName 2) (tt := tYes) (by rfl) sc.nd (pi_keys (pv 0)) (blkOk_by (own := [("_law_name", 2)]) (N := ["_law_one", "_law_other", "_law_name"]) (sc := defScope s__law_signs) (by decide +kernel)) (fun _ _ _ _ _ => pg_name (i := 2) sc.nd rfl (Or.inl rfl)) (fun _ _ _ _ _ => pts_nil) (fun _ _ _ _ _ => (pe_tup (pa_cons (pv 2) (pa_cons (pe_call G_sign_of (hr.mono (by decide)) (by rfl) g_sign_of F_sign_of.kp b_sign_of .nil pass0 (pa_cons (pe_dget (hu_of hr) (pv 0) (pv 2) (fun _ _ => rfl)) (pa_cons (pe_dget (hu_of hr) (pv 1) (pv 2) (fun _ _ => rfl)) pa_nil))) pa_nil)))))) pa_nil)))), ?_⟩
    refine ⟨a, _, ha, trivial, fun od => ?_⟩
    have a0 : upd H a (.frz od (.dK (rowKV N r))) a = some (.frz od (.dK (rowKV N r))) := upd_same
    have keep : ∀ c o, c ≠ a → H c = some o → upd H a (.frz od (.dK (rowKV N r))) c = some o := fun c o n e => (upd_ne n).trans e
    have oth : Rd (upd H a (.frz od (.dK (rowKV N r)))) b (.dK (rowKV N qq)) := by
      by_cases ab : b = a
      · rw [ab] at hb ⊢
        rw [ha] at hb
        have e : rowKV N r = rowKV N qq := HO.dK.inj (Option.some.inj hb)
        rw [← e]
        exact .inr ⟨od, a0⟩
      · exact .inl (keep b _ ab hb)
    have frz : ∀ c, H c = none → upd H a (.frz od (.dK (rowKV N r))) c = none := fun c e => by
      have n : c ≠ a := fun z => by
        rw [z, ha] at e
        cases e
      exact (upd_ne n).trans e
    have back : ∀ c, upd H a (.frz od (.dK (rowKV N r))) c = none → H c = none := fun c e => by
      have n : c ≠ a := fun z => by
        rw [z, a0] at e
        cases e
      rwa [upd_ne n] at e
    generalize upd H a (.frz od (.dK (rowKV N r))) = H0 at a0 keep oth frz back ⊢
    have lk : ((rowKV N r).map fun p => kV p.1).length = N.length := by
      unfold rowKV
      rw [List.length_map, List.length_map]
    refine ⟨_, rfl, a, od, rfl, .inl ⟨_, a0, fun D hD => w_wk (wk_keys a0) (fun i G => Same H0 G ∧ ∃ ps : List Addr, G D = some (.lst (ps.map V.ref)) ∧ ps.length = i ∧ ∀ j p, ps[j]? = some p → ∃ x, N[j]? = some x ∧ G p = some (.tup [.str x, .int (gR r qq x)])) ⟨same_new hD, [], upd_same, rfl, fun j p (e : ([] : List Addr)[j]? = some p) => by rw [List.getElem?_nil] at e; cases e⟩ (fun i G _ z => z.1) ?_ ?_⟩⟩
    · rintro i y G hy ⟨k, ps, aD, lp, al⟩
      have hy2 : ∃ x, N[i]? = some x ∧ y = .str x := by
        unfold rowKV at hy
        rw [List.map_map, List.getElem?_map] at hy
        cases hx : N[i]? with
        | none =>
          rw [hx] at hy
          cases hy
        | some x =>
          rw [hx] at hy
          exact ⟨x, rfl, (Option.some.inj hy).symm⟩
      obtain ⟨x, hx, rfl⟩ := hy2
      have mN := List.mem_of_getElem? hx
      have ga : DGet G a (.str x) (some (vOf (r x))) := .inl ⟨_, Sum.inr x, .inr ⟨od, k _ _ a0⟩, rfl, (valV_map (f := fun x => vOf (r x)) mN).symm⟩
      have gb : DGet G b (.str x) (some (vOf (qq x))) := .inl ⟨_, Sum.inr x, oth.elim (fun z => .inl (k _ _ z)) (fun ⟨o, z⟩ => .inr ⟨o, k _ _ z⟩), rfl, (valV_map (f := fun x => vOf (qq x)) mN).symm⟩
      refine ⟨rfl, _, rfl, _, rfl, _, rfl, a, _, rfl, ga, _, rfl, _, rfl, b, _, rfl, gb, ?_⟩
      obtain ⟨t1, t2, t3, t4, t5, t6⟩ := row_facts (H := G) or oq mN
      refine ⟨_, _, _, _, rfl, t1, t2, t3, t4, t5, t6, fun G1 s1 => ⟨(by show 2 ≤ sizeLine; decide), fun t ht => ?_⟩⟩
      have aD1 := s1 _ _ aD
      have ntD : D ≠ t := ne_of_none aD1 ht
      have lt : i < N.length := (List.getElem?_eq_some_iff.mp hx).1
      have kk1 : Same H0 (upd (upd G1 t (.tup [.str x, .int (gR r qq x)])) D (.lst (ps.map V.ref ++ [.ref t]))) := fun c o e => (upd_ne (ne_of_none e hD)).trans ((upd_ne (ne_of_none (s1 _ _ (k _ _ e)) ht)).trans (s1 _ _ (k _ _ e)))
      refine ⟨_, (upd_ne ntD).trans aD1, by rw [List.length_map, sizeLine_eq]; omega, kk1, ps ++ [t], ?_, by rw [List.length_append, lp]; rfl, fun j p hj => ?_⟩
      · refine upd_same.trans ?_
        rw [List.map_append]
        rfl
      · by_cases lj : j < ps.length
        · rw [List.getElem?_append_left lj] at hj
          obtain ⟨y, hy, hp⟩ := al j p hj
          have hp1 := s1 _ _ hp
          have npD : p ≠ D := fun z => by
            rw [z, aD1] at hp1
            cases hp1
          exact ⟨y, hy, (upd_ne npD).trans ((upd_ne (ne_of_none hp1 ht)).trans hp1)⟩
        · rw [List.getElem?_append_right (Nat.le_of_not_lt lj)] at hj
          have j0 : j - ps.length = 0 := Nat.lt_one_iff.mp (List.getElem?_eq_some_iff.mp hj).1
          rw [j0] at hj
          obtain rfl : t = p := Option.some.inj hj
          have ej : j = i := (Nat.le_antisymm (Nat.sub_eq_zero_iff_le.mp j0) (Nat.le_of_not_lt lj)).trans lp
          rw [ej]
          exact ⟨x, hx, (upd_ne ntD.symm).trans upd_same⟩
    · rintro G ⟨k, ps, aD, lp, al⟩
      refine ⟨k _ _ a0, ?_⟩
      have aG := k _ _ a0
      have naD : D ≠ a := fun z => by
        rw [z, aG] at aD
        cases aD
      have kH : Same H (upd G a (.dK (rowKV N r))) := fun c o e => by
        by_cases n : c = a
        · rw [n] at e ⊢
          rw [ha] at e
          cases e
          exact upd_same
        · exact (upd_ne n).trans (k _ _ (keep c o n e))
      have aD2 : upd G a (.dK (rowKV N r)) D = some (.lst (ps.map V.ref)) := (upd_ne naD).trans aD
      have prs : Paired (fun p kv => SqT K (upd G a (.dK (rowKV N r))) p [kV kv.1, kv.2]) ps (sgKV N r qq) := by
        refine paired_at (by unfold sgKV; rw [List.length_map, lp, lk]) fun j p kv hp hkv => ?_
        obtain ⟨x, hx, e⟩ := al j p hp
        unfold sgKV at hkv
        rw [List.getElem?_map, hx] at hkv
        obtain rfl := Option.some.inj hkv
        have npa : p ≠ a := fun z => by
          rw [z, aG] at e
          cases e
        exact SqT.of ((upd_ne npa).trans e)
      refine ⟨D, ps, sgKV N r qq, rfl, SqL.of aD2, prs, fun p hp => ?_⟩
      have mg : mergeK [] (sgKV N r qq) = sgKV N r qq := by
        have := merge_new (more := sgKV N r qq) (acc := []) (by
          rw [List.nil_append]
          unfold sgKV
          rw [List.map_map]
          exact List.Pairwise.map _ (fun x y n z => n (Sum.inr.inj z)) nd)
        rwa [List.nil_append] at this
      rw [mg]
      refine q p _ ?_ (kH.trans (same_new hp)) upd_same
      cases z : H p with
      | none => rfl
      | some o =>
        rw [kH _ _ z] at hp
        cases hp
end
end K18

set_option Elab.async false
set_option linter.all false
set_option maxRecDepth 100000
set_option maxHeartbeats 8000000
namespace K18
open PySem PySem.Spec L2 PSG PSS PSO
/-- signs of three things, two by two -/
structure Tri (x y z : Int) : Prop where
  a : x = 0 → y = z
  b : y = 0 → x = z
  m : x = -1 → y = -1 → z = -1
  p : x = 1 → y = 1 → z = 1
def Sg (x : Int) : Prop := x = -1 ∨ x = 0 ∨ x = 1
theorem Tri.neg {x y z : Int} (t : Tri x y z) : Tri (-x) (-y) (-z) := ⟨fun h => by rw [t.a (by omega)], fun h => by rw [t.b (by omega)], fun h k => by rw [t.p (by omega) (by omega)], fun h k => by rw [t.m (by omega) (by omega)]; rfl⟩
theorem sgE_sg {g : Str → Int} : ∀ {E : List Ent}, (∀ e ∈ E, Sg (g e.1)) → Sg (sgE g E)
  | [], _ => .inr (.inl rfl)
  | e :: r, h => by
    have h0 := h e List.mem_cons_self
    have ih := sgE_sg fun x m => h x (List.mem_cons_of_mem _ m)
    unfold Sg at *
    unfold sgE
    split
    · exact ih
    · split <;> omega
theorem sgE_tri {g h k : Str → Int} : ∀ {E : List Ent}, (∀ e ∈ E, Tri (g e.1) (h e.1) (k e.1) ∧ Sg (g e.1) ∧ Sg (h e.1) ∧ Sg (k e.1)) → Tri (sgE g E) (sgE h E) (sgE k E)
  | [], _ => ⟨fun _ => rfl, fun _ => rfl, fun (z : (0 : Int) = -1) _ => absurd z (by decide), fun (z : (0 : Int) = 1) _ => absurd z (by decide)⟩
  | e :: r, hh => by
    obtain ⟨t, s1, s2, s3⟩ := hh e List.mem_cons_self
    have ih := sgE_tri fun x m => hh x (List.mem_cons_of_mem _ m)
    have c : ∀ f : Str → Int, sgE f (e :: r) = if f e.1 = 0 then sgE f r else if e.2 = true then -(f e.1) else f e.1 := fun f => rfl
    have nz : ∀ f : Str → Int, ¬ f e.1 = 0 → ¬ (if e.2 = true then -(f e.1) else f e.1) = 0 := fun f n => by split <;> omega
    rw [c g, c h, c k]
    by_cases z1 : g e.1 = 0
    · rw [if_pos z1, ← t.a z1]
      by_cases z2 : h e.1 = 0
      · rw [if_pos z2, if_pos z2]
        exact ih
      · rw [if_neg z2, if_neg z2]
        exact ⟨fun _ => rfl, fun z => absurd z (nz h z2), fun _ y => y, fun _ y => y⟩
    · rw [if_neg z1]
      by_cases z2 : h e.1 = 0
      · rw [if_pos z2, ← t.b z2, if_neg z1]
        exact ⟨fun z => absurd z (nz g z1), fun _ => rfl, fun y _ => y, fun y _ => y⟩
      · rw [if_neg z2]
        by_cases eq : g e.1 = h e.1
        · have kk : k e.1 = g e.1 := by
            rcases s1 with w | w | w
            · rw [w]
              exact t.m w (eq ▸ w)
            · exact absurd w z1
            · rw [w]
              exact t.p w (eq ▸ w)
          rw [kk, ← eq, if_neg z1]
          exact ⟨fun _ => rfl, fun _ => rfl, fun y _ => y, fun y _ => y⟩
        · have op : g e.1 = -(h e.1) := by
            unfold Sg at s1 s2
            clear t ih c nz hh
            omega
          rw [op]
          refine ⟨fun z => absurd z ?_, fun z => absurd z (nz h z2), fun y z => ?_, fun y z => ?_⟩
          · clear t ih c nz hh
            split <;> omega
          · clear t ih c nz hh
            exfalso
            by_cases b : e.2 = true
            · rw [if_pos b] at y z
              omega
            · rw [if_neg b] at y z
              omega
          · clear t ih c nz hh
            exfalso
            by_cases b : e.2 = true
            · rw [if_pos b] at y z
              omega
            · rw [if_neg b] at y z
              omega
theorem sgE_app {g : Str → Int} : ∀ {E F : List Ent}, sgE g (E ++ F) = if sgE g E = 0 then sgE g F else sgE g E
  | [], F => rfl
  | e :: r, F => by
    have ih := sgE_app (g := g) (E := r) (F := F)
    show (if g e.1 = 0 then sgE g (r ++ F) else if e.2 then -(g e.1) else g e.1) = _
    by_cases z : g e.1 = 0
    · have c : sgE g (e :: r) = sgE g r := if_pos z
      rw [if_pos z, ih, c]
    · have c : sgE g (e :: r) = if e.2 then -(g e.1) else g e.1 := if_neg z
      rw [if_neg z, c]
      have nz : ¬ (if e.2 = true then -(g e.1) else g e.1) = 0 := by split <;> omega
      rw [if_neg nz]
theorem sgE_all {g : Str → Int} : ∀ {E : List Ent}, sgE g E = 0 → ∀ e ∈ E, g e.1 = 0
  | e :: r, h, x, m => by
    by_cases z : g e.1 = 0
    · have c : sgE g (e :: r) = sgE g r := if_pos z
      rw [c] at h
      rcases List.mem_cons.mp m with rfl | m
      · exact z
      · exact sgE_all h x m
    · have c : sgE g (e :: r) = if e.2 then -(g e.1) else g e.1 := if_neg z
      rw [c] at h
      split at h <;> omega
theorem sgE_filter {g : Str → Int} {f : Ent → Bool} : ∀ {E : List Ent}, (∀ e ∈ E, f e = false → g e.1 = 0) → sgE g (E.filter f) = sgE g E
  | [], _ => rfl
  | e :: r, h => by
    have ih := sgE_filter (f := f) fun x m => h x (List.mem_cons_of_mem _ m)
    by_cases b : f e = true
    · rw [List.filter_cons_of_pos b]
      show (if g e.1 = 0 then sgE g (r.filter f) else _) = if g e.1 = 0 then sgE g r else _
      rw [ih]
    · rw [List.filter_cons_of_neg b, ih]
      exact (if_pos (h e List.mem_cons_self (by simpa using b))).symm
/-- the one order, then the other one -/
theorem sgE_then {g : Str → Int} {E E2 : List Ent} : sgE g (thenE E E2) = if sgE g E = 0 then sgE g E2 else sgE g E := by
  unfold thenE
  rw [sgE_app]
  by_cases z : sgE g E = 0
  · rw [if_pos z, if_pos z]
    refine sgE_filter fun e m hf => ?_
    have me : e.1 ∈ E.map (·.1) := by
      have h2 : decide (e.1 ∈ E.map (·.1)) = true := by
        cases z2 : decide (e.1 ∈ E.map (·.1)) with
        | true => rfl
        | false =>
          rw [z2] at hf
          cases hf
      exact of_decide_eq_true h2
    obtain ⟨e', m', ee⟩ := List.mem_map.mp me
    rw [← ee]
    exact sgE_all z e' m'
  · rw [if_neg z, if_neg z]
theorem sgE_neg {g : Str → Int} : ∀ {E : List Ent}, sgE g (E.map flipE) = -(sgE g E)
  | [] => rfl
  | e :: r => by
    have ih := sgE_neg (g := g) (E := r)
    show (if g e.1 = 0 then sgE g (r.map flipE) else if (!e.2) = true then -(g e.1) else g e.1) = -(if g e.1 = 0 then sgE g r else if e.2 = true then -(g e.1) else g e.1)
    rw [ih]
    by_cases z : g e.1 = 0
    · rw [if_pos z, if_pos z]
    · rw [if_neg z, if_neg z]
      cases e.2 <;> simp
end K18

set_option Elab.async false
set_option linter.all false
set_option maxRecDepth 100000
set_option maxHeartbeats 2000000
namespace K18
open PySem PySem.Spec L2 PSG PSS PSO
section
variable {α : Type} (lt : α → α → Prop) [DecidableRel lt]
def sgL (a b : α) : Int := if lt a b then -1 else if lt b a then 1 else 0
variable {lt}
theorem sgL_sg (a b : α) : Sg (sgL lt a b) := by
  unfold sgL Sg
  split
  · exact .inl rfl
  · split
    · exact .inr (.inr rfl)
    · exact .inr (.inl rfl)
variable (ir : ∀ a, ¬ lt a a) (tr : ∀ a b c, lt a b → lt b c → lt a c) (to : ∀ a b, lt a b ∨ a = b ∨ lt b a)
include ir tr to
theorem sgL_m {a b : α} : sgL lt a b = -1 ↔ lt a b := by
  unfold sgL
  constructor
  · intro h
    split at h
    · assumption
    · split at h <;> cases h
  · exact fun h => if_pos h
theorem sgL_p {a b : α} : sgL lt a b = 1 ↔ lt b a := by
  unfold sgL
  constructor
  · intro h
    split at h
    · cases h
    · split at h
      · assumption
      · cases h
  · intro h
    rw [if_neg (fun k => ir a (tr _ _ _ k h)), if_pos h]
theorem sgL_z {a b : α} : sgL lt a b = 0 ↔ a = b := by
  constructor
  · intro h
    rcases to a b with k | k | k
    · rw [(sgL_m ir tr to).mpr k] at h
      cases h
    · exact k
    · rw [(sgL_p ir tr to).mpr k] at h
      cases h
  · rintro rfl
    unfold sgL
    rw [if_neg (ir a), if_neg (ir a)]
theorem sgL_tri (a b c : α) : Tri (sgL lt a b) (sgL lt b c) (sgL lt a c) := by
  refine ⟨fun h => ?_, fun h => ?_, fun h k => ?_, fun h k => ?_⟩
  · rw [(sgL_z ir tr to).mp h]
  · rw [(sgL_z ir tr to).mp h]
  · exact (sgL_m ir tr to).mpr (tr _ _ _ ((sgL_m ir tr to).mp h) ((sgL_m ir tr to).mp k))
  · exact (sgL_p ir tr to).mpr (tr _ _ _ ((sgL_p ir tr to).mp k) ((sgL_p ir tr to).mp h))
theorem sgL_neg (a b : α) : sgL lt b a = -(sgL lt a b) := by
  rcases to a b with k | k | k
  · rw [(sgL_m ir tr to).mpr k, (sgL_p ir tr to).mpr k]
    rfl
  · subst k
    rw [(sgL_z ir tr to).mpr rfl]
    rfl
  · rw [(sgL_p ir tr to).mpr k, (sgL_m ir tr to).mpr k]
end
def ltN (a b : List Nat) : Prop := a < b
instance : DecidableRel ltN := fun a b => inferInstanceAs (Decidable (a < b))
theorem ltN_to (a b : List Nat) : ltN a b ∨ a = b ∨ ltN b a := by
  by_cases h : a < b
  · exact .inl h
  · by_cases e : a = b
    · exact .inr (.inl e)
    · exact .inr (.inr (lst_lt h e))
/-- rows of one table, in a column -/
theorem gR_facts {N : List Str} {kk : Str → Bool} {r q s : Row} (hr : RowOk N kk r) (hq : RowOk N kk q) (hs : RowOk N kk s) {x : Str} (h : x ∈ N) : Tri (gR r q x) (gR q s x) (gR r s x) ∧ Sg (gR r q x) ∧ Sg (gR q s x) ∧ Sg (gR r s x) ∧ gR q r x = -(gR r q x) := by
  have ii : ∀ i j : Int, sgn (.int i) (.int j) = sgL (· < ·) i j := fun i j => rfl
  have ss : ∀ a b : Str, sgn (.str a) (.str b) = sgL ltN a.cps.toList b.cps.toList := fun a b => rfl
  unfold gR
  rcases two_vals hr hq h with ⟨i, j, e1, e2⟩ | ⟨a, b, e1, e2, _⟩
  · rcases two_vals hq hs h with ⟨j', k, e3, e4⟩ | ⟨_, _, e3, _⟩
    · rw [e1, e2, e4, ii, ii, ii, ii]
      have z := @Int.lt_irrefl
      exact ⟨sgL_tri (fun a => Int.lt_irrefl a) (fun a b c => Int.lt_trans) Int.lt_trichotomy _ _ _, sgL_sg _ _, sgL_sg _ _, sgL_sg _ _, sgL_neg (fun a => Int.lt_irrefl a) (fun a b c => Int.lt_trans) Int.lt_trichotomy _ _⟩
    · rw [e2] at e3
      cases e3
  · rcases two_vals hq hs h with ⟨_, _, e3, _⟩ | ⟨b', c, e3, e4, _⟩
    · rw [e2] at e3
      cases e3
    · rw [e1, e2, e4, ss, ss, ss, ss]
      exact ⟨sgL_tri (fun a => List.lt_irrefl a) (fun a b c => List.lt_trans) ltN_to _ _ _, sgL_sg _ _, sgL_sg _ _, sgL_sg _ _, sgL_neg (fun a => List.lt_irrefl a) (fun a b c => List.lt_trans) ltN_to _ _⟩
end K18

set_option Elab.async false
set_option linter.all false
set_option maxRecDepth 100000
set_option maxHeartbeats 2000000
namespace K18
open PySem PySem.Spec L2 PSG PSS PSO
/-- rows by place -/
structure Tab (N : List Str) (kk : Str → Bool) (R : Nat → Row) (n : Nat) (E : List Ent) : Prop where
  ok : ∀ i, i < n → RowOk N kk (R i)
  sub : ∀ e ∈ E, e.1 ∈ N
def cmpE (E : List Ent) (R : Nat → Row) (i j : Nat) : Int := sgE (gR (R i) (R j)) E
section
variable {N : List Str} {kk : Str → Bool} {R : Nat → Row} {n : Nat} {E : List Ent}
theorem cmp_tri (t : Tab N kk R n E) {i j k : Nat} (hi : i < n) (hj : j < n) (hk : k < n) : Tri (cmpE E R i j) (cmpE E R j k) (cmpE E R i k) :=
  sgE_tri fun e m => by
    obtain ⟨a, b, c, d, _⟩ := gR_facts (t.ok i hi) (t.ok j hj) (t.ok k hk) (t.sub e m)
    exact ⟨a, b, c, d⟩
theorem cmp_sg (t : Tab N kk R n E) {i j : Nat} (hi : i < n) (hj : j < n) : Sg (cmpE E R i j) :=
  sgE_sg fun e m => (gR_facts (t.ok i hi) (t.ok j hj) (t.ok j hj) (t.sub e m)).2.1
theorem sgE_opp {g h : Str → Int} : ∀ {E : List Ent}, (∀ e ∈ E, h e.1 = -(g e.1)) → sgE h E = -(sgE g E)
  | [], _ => rfl
  | e :: r, hh => by
    have ih := sgE_opp fun x m => hh x (List.mem_cons_of_mem _ m)
    have h0 := hh e List.mem_cons_self
    show (if h e.1 = 0 then sgE h r else if e.2 = true then -(h e.1) else h e.1) = -(if g e.1 = 0 then sgE g r else if e.2 = true then -(g e.1) else g e.1)
    rw [h0, ih]
    by_cases z : g e.1 = 0
    · rw [if_pos z, if_pos (by omega)]
    · rw [if_neg z, if_neg (by omega)]
      split <;> rfl
theorem cmp_neg (t : Tab N kk R n E) {i j : Nat} (hi : i < n) (hj : j < n) : cmpE E R j i = -(cmpE E R i j) :=
  sgE_opp fun e m => (gR_facts (t.ok i hi) (t.ok j hj) (t.ok j hj) (t.sub e m)).2.2.2.2
/-- by the entries, then by U -/
def TE2 (E : List Ent) (R : Nat → Row) (n : Nat) (U : Nat → Nat → Prop) (a b : Nat) : Prop := a < n ∧ b < n ∧ (cmpE E R a b = -1 ∨ (cmpE E R a b = 0 ∧ U a b))
theorem te_tr (t : Tab N kk R n E) {U : Nat → Nat → Prop} (u : ∀ a b c, U a b → U b c → U a c) : ∀ a b c, TE2 E R n U a b → TE2 E R n U b c → TE2 E R n U a c := by
  rintro a b c ⟨ha, hb, h1⟩ ⟨_, hc, h2⟩
  obtain ⟨t1, t2, t3, _⟩ := cmp_tri t ha hb hc
  refine ⟨ha, hc, ?_⟩
  rcases h1 with h1 | ⟨h1, u1⟩
  · rcases h2 with h2 | ⟨h2, _⟩
    · exact .inl (t3 h1 h2)
    · exact .inl ((t2 h2).symm.trans h1)
  · rcases h2 with h2 | ⟨h2, u2⟩
    · exact .inl ((t1 h1).symm.trans h2)
    · exact .inr ⟨(t1 h1).symm.trans h2, u _ _ _ u1 u2⟩
theorem te_as (t : Tab N kk R n E) {U : Nat → Nat → Prop} (u : ∀ a b, U a b → ¬ U b a) : ∀ a b, TE2 E R n U a b → ¬ TE2 E R n U b a := by
  rintro a b ⟨ha, hb, h1⟩ ⟨_, _, h2⟩
  have o := cmp_neg t ha hb
  rcases h1 with h1 | ⟨h1, u1⟩
  · rw [o, h1] at h2
    rcases h2 with h2 | ⟨h2, _⟩ <;> exact absurd h2 (by decide)
  · rcases h2 with h2 | ⟨h2, u2⟩
    · rw [o, h1] at h2
      exact absurd h2 (by decide)
    · exact u _ _ u1 u2
theorem ins_step (t : Tab N kk R n E) {U : Nat → Nat → Prop} (u : ∀ a b c, U a b → U b c → U a c) {M : List Nat} {x p : Nat} (pw : M.Pairwise (TE2 E R n U)) (hx : x < n) (al : ∀ y ∈ M, y < n ∧ U y x)
    (lo : p = 0 ∨ ∃ y, M[p - 1]? = some y ∧ ¬ cmpE E R x y = -1) (hi : ∀ i y, p ≤ i → M[i]? = some y → cmpE E R x y = -1) : (M.take p ++ x :: M.drop p).Pairwise (TE2 E R n U) := by
  refine pw_put (te_tr t u) pw ?_ fun i y hp hy => ⟨hx, (al y (List.mem_of_getElem? hy)).1, .inl (hi i y hp hy)⟩
  rcases lo with lo | ⟨y, hy, ny⟩
  · exact .inl lo
  · obtain ⟨yn, uy⟩ := al y (List.mem_of_getElem? hy)
    refine .inr ⟨y, hy, yn, hx, ?_⟩
    have o := cmp_neg t hx yn
    rcases cmp_sg t hx yn with s | s | s
    · exact absurd s ny
    · exact .inr ⟨by rw [o, s]; rfl, uy⟩
    · exact .inl (by rw [o, s])
end
/-- one order behind another one is both at once -/
theorem te_then {R : Nat → Row} {n : Nat} {E E2 : List Ent} {U : Nat → Nat → Prop} (a b : Nat) : TE2 (thenE E E2) R n U a b ↔ TE2 E R n (TE2 E2 R n U) a b := by
  have c : cmpE (thenE E E2) R a b = if cmpE E R a b = 0 then cmpE E2 R a b else cmpE E R a b := sgE_then
  unfold TE2
  rw [c]
  constructor
  · rintro ⟨ha, hb, h⟩
    refine ⟨ha, hb, ?_⟩
    by_cases z : cmpE E R a b = 0
    · rw [if_pos z] at h
      exact .inr ⟨z, ha, hb, h⟩
    · rw [if_neg z] at h
      exact h.elim .inl fun y => absurd y.1 z
  · rintro ⟨ha, hb, h⟩
    refine ⟨ha, hb, ?_⟩
    rcases h with h | ⟨z, _, _, h⟩
    · rw [if_neg (by rw [h]; decide)]
      exact .inl h
    · rw [if_pos z]
      exact h
end K18

set_option Elab.async false
set_option linter.all false
set_option maxRecDepth 100000
set_option maxHeartbeats 8000000
namespace K18
open PySem PySem.Spec L2 PSG PSS
open PyProof.Rows (IntsAre AllBare)
abbrev s__law_inserted : Stmt := topS 41
theorem sc__law_inserted : FnScope ["_law_order", "_law_rows", "_law_places", "_law_made", "_law_spot", "_law_at"] ["_law_order", "_law_rows", "_law_places"] (defScope s__law_inserted) := ⟨rfl, rfl, rfl, by decide +kernel, rfl, by decide +kernel, by decide +kernel⟩

def nums (L : List Nat) : List V := L.map fun (i : Nat) => V.int (i : Int)
def RowsAt (H : Hp) (a : Addr) (N : List Str) (R : Nat → Row) (n : Nat) : Prop := ∃ rs, H a = some (.lst rs) ∧ rs.length = n ∧ ∀ i, i < n → ∃ d, rs[i]? = some (.ref d) ∧ H d = some (.dK (rowKV N (R i)))
theorem RowsAt.same {H H' : Hp} {a : Addr} {N : List Str} {R : Nat → Row} {n : Nat} (h : RowsAt H a N R n) (k : Same H H') : RowsAt H' a N R n := by
  obtain ⟨rs, e, l, al⟩ := h
  exact ⟨rs, k _ _ e, l, fun i hi => let ⟨d, x, y⟩ := al i hi; ⟨d, x, k _ _ y⟩⟩
theorem cut_to (xs : List V) (n : Nat) : cutV xs none (some (n : Int)) = xs.take n := by
  unfold cutV
  rw [HT.sIx_none, HT.sIx_nat, List.drop_zero, Nat.sub_zero]
  by_cases h : n ≤ xs.length
  · rw [Nat.min_eq_left h]
  · rw [Nat.min_eq_right (by omega), List.take_of_length_le (Nat.le_refl _), List.take_of_length_le (by omega)]
theorem cut_from (xs : List V) (n : Nat) : cutV xs (some (n : Int)) none = xs.drop n := by
  unfold cutV
  rw [HT.sIx_none, HT.sIx_nat]
  by_cases h : n ≤ xs.length
  · rw [Nat.min_eq_left h, List.take_of_length_le (by rw [List.length_drop]; omega)]
  · rw [Nat.min_eq_right (by omega), Nat.sub_self, List.take_zero, List.drop_eq_nil_of_le (by omega)]
theorem nums_app (A B : List Nat) : nums (A ++ B) = nums A ++ nums B := List.map_append
section
variable {P : Program} {w : World} {K : PySem.W.Frag} {mg : Str → Option Value} {base : Heap}
def spIns (C : Addr) : Sp := fun vs H Q _ => ∃ (o a b : Addr) (N : List Str) (kk : Str → Bool) (R : Nat → Row) (n : Nat) (E : List Ent) (L : List Nat) (U : Nat → Nat → Prop), vs = [.ref o, .ref a, .ref b] ∧ OrdAt C H o E ∧ RowsAt H a N R n ∧ n ≤ 9 ∧ N.Nodup ∧ N.length ≤ 6 ∧ Tab N kk R n E ∧ H b = some (.lst (nums L)) ∧ (∀ i ∈ L, i < n) ∧ L.length ≤ 9 ∧ L.Pairwise U ∧ (∀ a b c, U a b → U b c → U a c) ∧
  ∀ m M H', Same H H' → M.Perm L → M.Pairwise (TE2 E R n U) → H' m = some (.lst (nums M)) → Q (.ref m) H'
theorem ok_ins {C f f1 f2 : Addr} {fd d1 d2 : FuncData} (F : Fun K "_law_inserted" "_law_inserted" s__law_inserted f fd) (T : Blt mg) (O : OrdC K mg C) (M_sign : Meth K C "sign" f1) (b_sign : Binds K d1 ["self", "signs"] []) (G_sign : FnOk P w K mg base CX0 2 f1 d1 ["self", "signs"] (spOSign C))
    (F__law_signs : Fun K "_law_signs" "_law_signs" s__law_signs f2 d2) (b__law_signs : Binds K d2 ["_law_one", "_law_other"] []) (g__law_signs : mg "_law_signs" = some (.ref f2)) (G__law_signs : FnOk P w K mg base CX0 4 f2 d2 ["_law_one", "_law_other"] spSigns) :
    FnOk P w K mg base CX0 5 f fd ["_law_order", "_law_rows", "_law_places"] (spIns C) := by
  have sc := sc__law_inserted
  refine F.ok sc (fun vs H Q E h => ?_) (fun cdv A outer s H vs Q E hr h => ?_)
  · obtain ⟨o, a, b, N, kk, R, n, E, L, U, rfl, _⟩ := h
    rfl
  · obtain ⟨o, a, b, N, kk, R, n, E, L, U, rfl, ho, hR, hn, nd, hN, tab, hb, hL, lL, pw, ut, q⟩ := h
    have lI : ∀ M : List Nat, (nums M).length = M.length := fun M => List.length_map _
    refine ⟨_, (pss_cons (ps_set (i := 3) sc.nd rfl (.inl rfl) (pe_lst pa_nil))
      (pss_cons (ps_for PassesOwn.never (by rfl) (pi_list (pv 2)) (pg_name (i := 4) sc.nd rfl (.inl rfl)) (pss_cons (ps_set (i := 5) sc.nd rfl (.inl rfl) (pe_callB call_len_seq (by rfl) T.n_len PySem.boot_len (pa_cons (pv 3) pa_nil)))
      (pss_cons (ps_while PassesOwn.never (PW.pt (pw_and (pt_cmpR op_gt (pv 5) pe_int (nomark _)) (pw_and1 (pt_cmpR op_eq (pe_meth (pv 0) O.cl M_sign G_sign (hr.mono (by decide)) b_sign .nil pass0 (pa_cons (pe_call G__law_signs (hr.mono (by decide)) (by rfl) g__law_signs F__law_signs.kp b__law_signs .nil pass0 (pa_cons (pe_ix ix_list (pv 1) (pv 4) (fun _ _ => rfl)) (pa_cons (pe_ix ix_list (pv 1) (pe_ix ix_list (pv 3) (pe_op op_sub (pv 5) pe_int) (fun _ _ => rfl)) (fun _ _ => rfl)) pa_nil))) pa_nil)) (pe_un un_neg pe_int) (nomark _))))) (pss_one (ps_set (i := 5) sc.nd rfl (.inl rfl) (pe_op op_sub (pv 5) pe_int))))
      (pss_one (ps_set (i := 3) sc.nd rfl (.inl rfl) (pe_op op_cat (pe_op op_cat (pe_slice sl_list (pv 3) po_none (po_some (pv 5))) (pe_lst (pa_cons (pv 4) pa_nil))) (pe_slice sl_list (pv 3) (po_some (pv 5)) po_none)))))))
      (pss_one (ps_ret (pv 3))))), ?_⟩
    refine ⟨Nat.zero_le _, fun D hD => ?_⟩
    have k0 : Same H (upd H D (.lst [])) := same_new hD
    refine ⟨_, rfl, b, rfl, ⟨_, SqL.of (k0 _ _ hb)⟩, for_list (K := K) (a := b) (xs := nums L) (fun i σ G => ∃ m y4 y5 M, σ = [some (.ref o), some (.ref a), some (.ref b), some (.ref m), y4, y5] ∧ Same H G ∧ G m = some (.lst (nums M)) ∧ M.Perm (L.take i) ∧ M.Pairwise (TE2 E R n U)) ⟨D, none, none, [], rfl, k0, upd_same, List.Perm.refl _, List.Pairwise.nil⟩ (fun i σ G _ ⟨_, _, _, _, _, k, _⟩ => SqL.of (k _ _ hb)) ?_ ?_⟩
    · rintro i x σ G hx ⟨m, y4, y5, M, rfl, k, aM, pm, pM⟩
      obtain ⟨s0, hs0, rfl⟩ : ∃ s0, L[i]? = some s0 ∧ x = .int (s0 : Int) := by
        unfold nums at hx
        rw [List.getElem?_map] at hx
        cases h2 : L[i]? with
        | none =>
          rw [h2] at hx
          cases hx
        | some z =>
          rw [h2] at hx
          exact ⟨z, rfl, (Option.some.inj hx).symm⟩
      have ms : s0 ∈ L := List.mem_of_getElem? hs0
      have sn := hL s0 ms
      have un : ∀ y ∈ M, y < n ∧ U y s0 := fun y hy => by
        have m2 := pm.subset hy
        refine ⟨hL y (List.mem_of_mem_take m2), ?_⟩
        obtain ⟨j, hj⟩ := List.mem_iff_getElem?.mp m2
        obtain ⟨lj, ej⟩ := List.getElem?_eq_some_iff.mp hj
        obtain ⟨li, ei⟩ := List.getElem?_eq_some_iff.mp hs0
        rw [List.length_take] at lj
        rw [List.getElem_take] at ej
        rw [← ej, ← ei]
        exact List.pairwise_iff_getElem.mp pw j i (by omega) li (by omega)
      have lM : M.length ≤ 9 := by
        rw [pm.length_eq, List.length_take]
        omega
      refine ⟨_, rfl, m, _, rfl, .inl (SqL.of aM), ?_⟩
      rw [lI]
      refine ⟨fun p σ' G' => σ' = [some (.ref o), some (.ref a), some (.ref b), some (.ref m), some (.int (s0 : Int)), some (.int (p : Int))] ∧ Same G G' ∧ p ≤ M.length ∧ ∀ i y, p ≤ i → M[i]? = some y → cmpE E R s0 y = -1, ⟨M.length, rfl, Same.refl _, Nat.le_refl _, fun i y le e => ?_⟩, ?_⟩
      · rw [List.getElem?_eq_none le] at e
        cases e
      · rintro p σ' G' ⟨rfl, k1, lp, hi⟩
        refine ⟨_, rfl, _, _, rfl, rfl, _, rfl, ite2 (fun e => ?_) (fun e => ?_)⟩
        · have p0 : 0 < p := by
            have := of_decide_eq_true e
            omega
          obtain ⟨p', rfl⟩ : ∃ p', p = p' + 1 := ⟨p - 1, by omega⟩
          have kG := k.trans k1
          obtain ⟨dx, t, xs, ha, hb2, c⟩ := (ho.same kG).ex
          obtain ⟨rs, hrs, lrs, als⟩ := hR.same kG
          obtain ⟨d1, e1, f1'⟩ := als s0 sn
          have ly : p' < M.length := by omega
          have hy : M[p']? = some M[p'] := List.getElem?_eq_getElem ly
          have yn : M[p'] < n := hL _ (List.mem_of_mem_take (pm.subset (List.getElem_mem ly)))
          obtain ⟨d2, e2, f2'⟩ := als M[p'] yn
          have sub : (((p' + 1 : Nat) : Int)) - 1 = (p' : Int) := by omega
          have am : atI (nums M) ((((p' + 1 : Nat) : Int)) - 1) = some (.int (M[p'] : Int)) := by
            rw [sub]
            refine atI_nat ?_
            unfold nums
            rw [List.getElem?_map, hy]
            rfl
          refine ⟨_, rfl, o, dx, _, rfl, ha, rfl, _, rfl, _, rfl, a, _, _, _, rfl, rfl, SqL.of hrs, atI_nat e1, _, rfl, _, rfl, _, rfl, _, _, rfl, rfl, m, _, _, _, rfl, rfl, SqL.of (k1 _ _ aM), am, a, _, _, _, rfl, rfl, SqL.of hrs, atI_nat e2, ?_⟩
          refine ⟨d1, d2, N, kk, R s0, R M[p'], rfl, nd, hN, f1', f2', tab.ok _ sn, tab.ok _ yn, fun Dg H2 nDg k2 aDg => ?_⟩
          refine ⟨o, Dg, E, gR (R s0) (R M[p']), rfl, (ho.same kG).same k2, ⟨_, aDg, fun e he => ?_⟩, fun H3 k3 => ?_⟩
          · unfold sgKV
            rw [valV_map (f := fun x => V.int (gR (R s0) (R M[p']) x)) (tab.sub e he)]
            rfl
          · refine ⟨_, rfl, rfl, _, rfl, ite2 (fun e3 => ?_) (fun e3 => ?_)⟩
            · have c3 : cmpE E R s0 M[p'] = -1 := V.int.inj (of_decide_eq_true e3)
              have K3 : Same G H3 := (k1.trans k2).trans k3
              refine ⟨fun σ' G' => σ' = [some (.ref o), some (.ref a), some (.ref b), some (.ref m), some (.int (s0 : Int)), some (.int (p' : Int))] ∧ Same G G' ∧ p' ≤ M.length ∧ ∀ i y, p' ≤ i → M[i]? = some y → cmpE E R s0 y = -1, fun σ' G' h => ⟨p', Nat.lt_succ_self _, h⟩, ?_⟩
              refine ⟨_, rfl, _, _, rfl, rfl, congrArg (fun z => [some (V.ref o), some (V.ref a), some (V.ref b), some (V.ref m), some (V.int (s0 : Int)), some (V.int z)]) sub, K3, by omega, fun i y le hy2 => ?_⟩
              rcases Nat.eq_or_lt_of_le le with rfl | lt
              · rw [hy] at hy2
                cases hy2
                exact c3
              · exact hi i y lt hy2
            · have c3 : ¬ cmpE E R s0 M[p'] = -1 := fun z => e3 (decide_eq_true (congrArg V.int z))
              have K3 : Same G H3 := (k1.trans k2).trans k3
              have aM3 := K3 _ _ aM
              refine ⟨_, rfl, _, rfl, _, rfl, m, _, rfl, SqL.of aM3, fun q1 n1 => ?_⟩
              have aM4 := (same_new (o := .lst (cutV (nums M) none (some (((p' + 1 : Nat)) : Int)))) n1) _ _ aM3
              refine ⟨_, rfl, (by show 1 ≤ sizeLine; decide), fun q2 n2 => ?_⟩
              refine ⟨q1, q2, _, _, rfl, rfl, (upd_ne (ne_of_none upd_same n2)).trans upd_same, upd_same, ?_, fun q3 n3 => ?_⟩
              · rw [cut_to, List.length_take, lI, List.length_singleton, sizeLine_eq]
                omega
              · refine ⟨_, rfl, _, rfl, _, rfl, m, _, rfl, SqL.of ((same_new n3) _ _ ((same_new n2) _ _ ((same_new n1) _ _ aM3))), fun q4 n4 => ⟨q3, q4, _, _, rfl, rfl, (upd_ne (ne_of_none upd_same n4)).trans upd_same, upd_same, ?_, fun q5 n5 => ?_⟩⟩
                · rw [cut_to, cut_from, List.length_append, List.length_take, List.length_drop, lI, List.length_singleton, sizeLine_eq]
                  omega
                · refine ⟨q5, _, _, M.take ((p' + 1 : Nat)) ++ s0 :: M.drop ((p' + 1 : Nat)), rfl, (k.trans K3).trans ((same_new n1).trans ((same_new n2).trans ((same_new n3).trans ((same_new n4).trans (same_new n5))))), upd_same.trans ?_, ?_, ins_step tab ut pM sn un (.inr ⟨_, hy, c3⟩) hi⟩
                  · rw [cut_to, cut_from]
                    unfold nums
                    rw [List.map_append, List.map_cons, List.map_take, List.map_drop, List.append_assoc]
                    rfl
                  · refine (PSO.perm_put).trans ((List.Perm.cons s0 pm).trans ?_)
                    rw [List.take_add_one, hs0]
                    exact (List.perm_append_singleton s0 _).symm
        · have p0 : p = 0 := by
            have : ¬ (0 : Int) < (p : Int) := fun z => e (decide_eq_true z)
            omega
          subst p0
          have K3 : Same G _ := k1
          have aM3 := K3 _ _ aM
          refine ⟨_, rfl, _, rfl, _, rfl, m, _, rfl, SqL.of aM3, fun q1 n1 => ?_⟩
          have aM4 := (same_new (o := .lst (cutV (nums M) none (some (((0 : Nat)) : Int)))) n1) _ _ aM3
          refine ⟨_, rfl, (by show 1 ≤ sizeLine; decide), fun q2 n2 => ?_⟩
          refine ⟨q1, q2, _, _, rfl, rfl, (upd_ne (ne_of_none upd_same n2)).trans upd_same, upd_same, ?_, fun q3 n3 => ?_⟩
          · rw [cut_to, List.length_take, lI, List.length_singleton, sizeLine_eq]
            omega
          · refine ⟨_, rfl, _, rfl, _, rfl, m, _, rfl, SqL.of ((same_new n3) _ _ ((same_new n2) _ _ ((same_new n1) _ _ aM3))), fun q4 n4 => ⟨q3, q4, _, _, rfl, rfl, (upd_ne (ne_of_none upd_same n4)).trans upd_same, upd_same, ?_, fun q5 n5 => ?_⟩⟩
            · rw [cut_to, cut_from, List.length_append, List.length_take, List.length_drop, lI, List.length_singleton, sizeLine_eq]
              omega
            · refine ⟨q5, _, _, M.take ((0 : Nat)) ++ s0 :: M.drop ((0 : Nat)), rfl, (k.trans K3).trans ((same_new n1).trans ((same_new n2).trans ((same_new n3).trans ((same_new n4).trans (same_new n5))))), upd_same.trans ?_, ?_, ins_step tab ut pM sn un (.inl rfl) hi⟩
              · rw [cut_to, cut_from]
                unfold nums
                rw [List.map_append, List.map_cons, List.map_take, List.map_drop, List.append_assoc]
                rfl
              · refine (PSO.perm_put).trans ((List.Perm.cons s0 pm).trans ?_)
                rw [List.take_add_one, hs0]
                exact (List.perm_append_singleton s0 _).symm
    · rintro σ G ⟨m, y4, y5, M, rfl, k, aM, pm, pM⟩
      rw [lI, List.take_length] at pm
      exact ⟨_, rfl, q m M G k pm pM aM⟩
end
end K18

set_option Elab.async false
set_option linter.all false
set_option maxRecDepth 100000
set_option maxHeartbeats 8000000
namespace K18
open PySem PySem.Spec L2 PSG PSS PSO
abbrev s__law_sorted : Stmt := topS 40
theorem sc__law_sorted : FnScope ["_law_entries_here", "_law_rows", "_law_places", "_law_name", "_law_way", "_law_values", "_law_made", "_law_value_here", "_law_row", "_law_spot"] ["_law_entries_here", "_law_rows"] (defScope s__law_sorted) := ⟨rfl, rfl, rfl, by decide +kernel, rfl, by decide +kernel, by decide +kernel⟩
def kyR (r : Row) (x : Str) : Key := match r x with
  | .int i => .inl i
  | .str s => .inr s
  | _ => .inl 0
section
variable {N : List Str} {kk : Str → Bool} {r q : Row}
theorem vOf_ky (h : RowOk N kk r) {x : Str} (hx : x ∈ N) : vOf (r x) = kV (kyR r x) := by
  unfold kyR
  rcases two_vals h h hx with ⟨i, j, e1, _⟩ | ⟨s, t, e1, _⟩
  · rw [e1]; rfl
  · rw [e1]; rfl
theorem gR_ky (hr : RowOk N kk r) (hq : RowOk N kk q) {x : Str} (hx : x ∈ N) : (gR r q x = -1 ↔ ltK (kyR r x) (kyR q x) = true) ∧ (gR r q x = 0 ↔ kyR r x = kyR q x) := by
  have ii : ∀ i j : Int, sgn (.int i) (.int j) = sgL (· < ·) i j := fun i j => rfl
  have ss : ∀ a b : Str, sgn (.str a) (.str b) = sgL ltN a.cps.toList b.cps.toList := fun a b => rfl
  unfold gR kyR
  rcases two_vals hr hq hx with ⟨i, j, e1, e2⟩ | ⟨a, b, e1, e2, _⟩
  · rw [e1, e2, ii]
    refine ⟨(sgL_m (fun a => Int.lt_irrefl a) (fun a b c => Int.lt_trans) Int.lt_trichotomy).trans ?_, (sgL_z (fun a => Int.lt_irrefl a) (fun a b c => Int.lt_trans) Int.lt_trichotomy).trans ?_⟩
    · show i < j ↔ decide (i < j) = true
      exact decide_eq_true_iff.symm
    · show i = j ↔ (Sum.inl i : Key) = Sum.inl j
      exact ⟨fun e => congrArg Sum.inl e, fun e => Sum.inl.inj e⟩
  · rw [e1, e2, ss]
    refine ⟨(sgL_m (fun a => List.lt_irrefl a) (fun a b c => List.lt_trans) ltN_to).trans ?_, (sgL_z (fun a => List.lt_irrefl a) (fun a b c => List.lt_trans) ltN_to).trans ?_⟩
    · show ltN a.cps.toList b.cps.toList ↔ decide (a.cps.toList < b.cps.toList) = true
      exact decide_eq_true_iff.symm
    · show a.cps.toList = b.cps.toList ↔ (Sum.inr a : Key) = Sum.inr b
      exact ⟨fun e => congrArg Sum.inr (str_ext e), fun e => congrArg (fun z : Str => z.cps.toList) (Sum.inr.inj e)⟩
end
def turnZ (d : Bool) (zs : List Key) : List Key := if d = true then zs.reverse else zs
theorem mem_turnZ {d : Bool} {zs : List Key} {k : Key} : k ∈ turnZ d zs ↔ k ∈ zs := by
  unfold turnZ
  split
  · exact List.mem_reverse
  · rfl
def keyAt (R : Nat → Row) (x : Str) (i : Nat) : Key := kyR (R i) x
theorem tab_tail {N : List Str} {kk : Str → Bool} {R : Nat → Row} {n : Nat} {E : List Ent} {e : Ent} (t : Tab N kk R n (e :: E)) : Tab N kk R n E := ⟨t.ok, fun x h => t.sub x (List.mem_cons_of_mem _ h)⟩
/-- one round of the sort -/
theorem sort_step {N : List Str} {kk : Str → Bool} {R : Nat → Row} {n : Nat} {E : List Ent} {e : Ent} {U : Nat → Nat → Prop} (t : Tab N kk R n (e :: E)) (uas : ∀ a b, U a b → ¬ U b a) {P : List Nat} (pm : P.Perm (List.range n)) (pw : P.Pairwise (TE2 E R n U))
    {zs : List Key} (zp : zs.Pairwise fun a b => ltK a b = true) (zm : ∀ k, k ∈ zs ↔ ∃ i, i < n ∧ k = keyAt R e.1 i) :
    (buckets (keyAt R e.1) (turnZ e.2 zs) P).Perm (List.range n) ∧ (buckets (keyAt R e.1) (turnZ e.2 zs) P).Pairwise (TE2 (e :: E) R n U) := by
  have inP : ∀ x, x ∈ P ↔ x < n := fun x => pm.mem_iff.trans List.mem_range
  have inB : ∀ x, x ∈ buckets (keyAt R e.1) (turnZ e.2 zs) P ↔ x < n := fun x => by
    rw [mem_buckets, inP, mem_turnZ]
    exact ⟨fun h => h.1, fun h => ⟨h, (zm _).mpr ⟨x, h, rfl⟩⟩⟩
  have hx : e.1 ∈ N := t.sub e List.mem_cons_self
  have cmpC : ∀ a b, cmpE (e :: E) R a b = if gR (R a) (R b) e.1 = 0 then cmpE E R a b else if e.2 = true then -(gR (R a) (R b) e.1) else gR (R a) (R b) e.1 := fun a b => rfl
  have pv : (turnZ e.2 zs).Pairwise (fun u v => if e.2 = true then ltK v u = true else ltK u v = true) := by
    unfold turnZ
    by_cases d : e.2 = true
    · rw [if_pos d]
      refine List.pairwise_reverse.mpr (zp.imp fun {a b} h => ?_)
      rw [if_pos d]
      exact h
    · rw [if_neg d]
      refine zp.imp fun {a b} h => ?_
      rw [if_neg d]
      exact h
  have pB : (buckets (keyAt R e.1) (turnZ e.2 zs) P).Pairwise (TE2 (e :: E) R n U) := by
    refine List.Pairwise.imp_of_mem (fun {a b} ha hb h => ?_) (pw_buckets pw pv)
    have an := (inB a).mp ha
    have bn := (inB b).mp hb
    obtain ⟨g1, g2⟩ := gR_ky (t.ok a an) (t.ok b bn) hx
    refine ⟨an, bn, ?_⟩
    rw [cmpC]
    rcases h with h | ⟨h, _, _, h3⟩
    · left
      by_cases d : e.2 = true
      · rw [if_pos d] at h
        have g3 := (gR_ky (t.ok b bn) (t.ok a an) hx).1.mpr h
        have g4 := (gR_facts (t.ok b bn) (t.ok a an) (t.ok a an) hx).2.2.2.2
        rw [g3] at g4
        rw [g4, if_neg (by decide), if_pos d]
        decide
      · rw [if_neg d] at h
        rw [g1.mpr h, if_neg (by decide), if_neg d]
    · rw [if_pos (g2.mpr h)]
      exact h3
  refine ⟨perm_of_mem (nodup_of_pw (fun a h => te_as t uas a a h h) pB) List.nodup_range fun x => (inB x).trans List.mem_range.symm, pB⟩
theorem range_te {R : Nat → Row} {n : Nat} : (List.range n).Pairwise (TE2 [] R n (fun a b => a < b)) := by
  refine List.Pairwise.imp_of_mem (fun {a b} ha hb h => ⟨List.mem_range.mp ha, List.mem_range.mp hb, .inr ⟨rfl, h⟩⟩) List.pairwise_lt_range
theorem oneK_col {N : List Str} {kk : Str → Bool} {R : Nat → Row} {n : Nat} {E : List Ent} (t : Tab N kk R n E) {x : Str} (hx : x ∈ N) : OneK (sof ((List.range n).map (keyAt R x))) := by
  by_cases z : kk x = true
  · refine .inr fun k hk => ?_
    rw [mem_sof, List.mem_map] at hk
    obtain ⟨i, hi, rfl⟩ := hk
    have v := (t.ok i (List.mem_range.mp hi)).val x hx
    rw [if_pos z] at v
    obtain ⟨s, e, _⟩ := v
    refine ⟨s, ?_⟩
    show kyR (R i) x = _
    unfold kyR
    rw [e]
  · refine .inl fun k hk => ?_
    rw [mem_sof, List.mem_map] at hk
    obtain ⟨i, hi, rfl⟩ := hk
    have v := (t.ok i (List.mem_range.mp hi)).val x hx
    rw [if_neg z] at v
    obtain ⟨s, e⟩ := v
    refine ⟨s, ?_⟩
    show kyR (R i) x = _
    unfold kyR
    rw [e]
theorem same_upd {H G : Hp} {D : Addr} {o : HO} (k : Same H G) (hD : H D = none) : Same H (upd G D o) := fun b o e => (upd_ne (ne_of_none e hD)).trans (k b o e)
theorem scal_kV (a b : Key) : scal (kV a) (kV b) = true := by
  cases a <;> cases b <;> rfl
theorem kV_inj {a b : Key} (h : kV a = kV b) : a = b := by
  cases a <;> cases b <;> cases h <;> rfl
theorem bk_len {α β : Type} [DecidableEq β] {key : α → β} {vs : List β} {L : List α} (j : Nat) : (buckets key (vs.take j) L).length ≤ (buckets key vs L).length := by
  have e : buckets key vs L = buckets key (vs.take j) L ++ buckets key (vs.drop j) L := by
    unfold buckets
    rw [← List.flatMap_append, List.take_append_drop]
  rw [e, List.length_append]
  omega
section
variable {P : Program} {w : World} {K : PySem.W.Frag} {mg : Str → Option Value} {base : Heap}
def spSorted : Sp := fun vs H Q _ => ∃ (e a : Addr) (xs : List V) (N : List Str) (kk : Str → Bool) (R : Nat → Row) (n : Nat) (E : List Ent), vs = [.ref e, .ref a] ∧ H e = some (.lst xs) ∧ EntsAt H xs E ∧ RowsAt H a N R n ∧ n ≤ 9 ∧ Tab N kk R n E ∧ E.length ≤ 6 ∧
  ∀ m M H', Same H H' → M.Perm (List.range n) → M.Pairwise (TE2 E R n (fun a b => a < b)) → H' m = some (.lst (nums M)) → Q (.ref m) H'
theorem ok_sorted {f : Addr} {fd : FuncData} (F : Fun K "_law_sorted" "_law_sorted" s__law_sorted f fd) (T : Blt mg) :
    FnOk P w K mg base CX0 1 f fd ["_law_entries_here", "_law_rows"] spSorted := by
  have sc := sc__law_sorted
  refine F.ok sc (fun vs H Q E h => ?_) (fun cdv A outer s H vs Q E hr h => ?_)
  · obtain ⟨e, a, xs, N, kk, R, n, E, rfl, _⟩ := h
    rfl
  · obtain ⟨e, a, xs, N, kk, R, n, E, rfl, he, c, hR, hn, tab, lE6, q⟩ := h
    have lE := c.len
    refine ⟨_, (pss_cons (ps_set (i := 2) sc.nd rfl (.inl rfl) (pe_listRg (by rfl) (by rfl) T.n_list (prg_1 (by rfl) T.n_range (pe_callB call_len_seq (by rfl) T.n_len PySem.boot_len (pa_cons (pv 1) pa_nil)))))
      (pss_cons (ps_for PassesOwn.never (by rfl) (pi_list (PSV.pe_lstRev (by rfl) (by rfl) T.n_list (by rfl) T.n_reversed (pv 0))) (pg_tup (by rfl) (pgs_cons (pg_name (i := 3) sc.nd rfl (.inr rfl)) (pgs_cons (pg_name (i := 4) sc.nd rfl (.inl rfl)) pgs_nil))) (pss_cons (ps_set (i := 5) sc.nd rfl (.inl rfl) (pe_callB (cr_sortK (by rfl)) (by rfl) T.n_sorted (by decide +kernel) (pa_cons (pe_callTy (cr_setOf (by rfl)) (by rfl) T.n_set (by decide +kernel) (pa_cons (pe_lc (own := [("_law_row", 8)]) (g := gName 8) (tt := tYes) (by rfl) sc.nd (pi_list (pv 1)) (blkOk_by (own := [("_law_row", 8)]) (N := ["_law_entries_here", "_law_rows", "_law_places", "_law_name", "_law_way", "_law_values", "_law_made", "_law_value_here", "_law_row", "_law_spot"]) (sc := defScope s__law_sorted) (by decide +kernel)) (fun _ _ _ _ _ => pg_name (i := 8) sc.nd rfl (Or.inl rfl)) (fun _ _ _ _ _ => pts_nil) (fun _ _ _ _ _ => (pe_dget (hu_of hr) (pv 8) (pv 3) (fun _ _ => rfl)))) pa_nil)) pa_nil)))
      (pss_cons (ps_if (pt_cmpR op_eq (pv 4) pe_str (nomark _)) (pss_one (ps_expr (pe_bm0 PySem.F.plainAttrs_list PySem.F.slot_list_reverse PySem.F.type_list_reverse mt_reverse (pv 5)))) pss_nil)
      (pss_cons (ps_set (i := 6) sc.nd rfl (.inl rfl) (pe_lst pa_nil))
      (pss_cons (ps_for PassesOwn.never (by rfl) (pi_list (pv 5)) (pg_name (i := 7) sc.nd rfl (.inr rfl)) (pss_one (ps_expr (pe_bm PySem.F.plainAttrs_list PySem.F.slot_list_extend PySem.F.type_list_extend mt_extend (pv 6) (pa_cons (pe_lc (own := [("_law_spot", 9)]) (g := gName 9) (by rfl) sc.nd (pi_list (pv 2)) (blkOk_by (own := [("_law_spot", 9)]) (N := ["_law_entries_here", "_law_rows", "_law_places", "_law_name", "_law_way", "_law_values", "_law_made", "_law_value_here", "_law_row", "_law_spot"]) (sc := defScope s__law_sorted) (by decide +kernel)) (fun _ _ _ _ _ => pg_name (i := 9) sc.nd rfl (Or.inl rfl)) (fun _ _ _ _ _ => pts_one (pt_cmpR op_eq (pe_dget (hu_of hr) (pe_ix (show IxR _ (rIxL K) from ix_list) (pv 1) (pv 9) (fun _ _ => rfl)) (pv 3) (fun _ _ => rfl)) (pv 7) (nomark _))) (fun _ _ _ _ _ => (pv 9))) pa_nil)))))
      (pss_one (ps_set (i := 2) sc.nd rfl (.inl rfl) (pv 6))))))))
      (pss_one (ps_ret (pv 2))))), ?_⟩
    obtain ⟨rs, hrs, lrs, als⟩ := id hR
    refine ⟨_, rfl, a, _, rfl, .inl (SqL.of hrs), _, rfl, RgOk.of_le (by decide) (by omega) (by decide) (by omega), fun p0 hp0 => ?_⟩
    have k0 : Same H (upd H p0 (.lst (rgV 0 (rs.length : Int)))) := same_new hp0
    refine ⟨_, rfl, e, xs, rfl, SqL.of (k0 _ _ he), fun D0 hD0 => ?_⟩
    have k1 : Same H (upd (upd H p0 (.lst (rgV 0 (rs.length : Int)))) D0 (.lst xs.reverse)) := k0.trans (same_new hD0)
    have rg : rgV 0 (rs.length : Int) = nums (List.range n) := by
      rw [lrs]
      unfold rgV nums
      rw [show (((n : Nat) : Int) - 0).toNat = n from by omega]
      exact List.map_congr_left fun i _ => by rw [Int.zero_add]
    generalize hH1 : upd (upd H p0 (.lst (rgV 0 (rs.length : Int)))) D0 (.lst xs.reverse) = H1 at k1 ⊢
    have aD0 : H1 D0 = some (.lst xs.reverse) := by rw [← hH1]; exact upd_same
    have ap0 : H1 p0 = some (.lst (nums (List.range n))) := by
      rw [← hH1, rg]
      exact (upd_ne (ne_of_none upd_same (by rw [rg] at hD0; exact hD0))).trans upd_same
    refine ⟨D0, rfl, ⟨_, SqL.of aD0⟩, for_list (K := K) (a := D0) (xs := xs.reverse) (fun i σ G => ∃ p y3 y4 y5 y6 y7 y8 y9 Pn, σ = [some (.ref e), some (.ref a), some (.ref p), y3, y4, y5, y6, y7, y8, y9] ∧ Same H1 G ∧ G p = some (.lst (nums Pn)) ∧ Pn.Perm (List.range n) ∧ Pn.Pairwise (TE2 (E.drop (E.length - i)) R n (fun a b => a < b))) ⟨p0, none, none, none, none, none, none, none, List.range n, rfl, Same.refl _, ap0, List.Perm.refl _, ?_⟩ (fun i σ G _ ⟨_, _, _, _, _, _, _, _, _, _, k, _⟩ => SqL.of (k _ _ aD0)) ?_ ?_⟩
    · rw [Nat.sub_zero, List.drop_of_length_le (Nat.le_refl _)]
      exact range_te
    · rintro i x σ G hx ⟨p, y3, y4, y5, y6, y7, y8, y9, Pn, rfl, k, aP, pm, pP⟩
      have li : i < E.length := by
        have := (List.getElem?_eq_some_iff.mp hx).1
        rw [List.length_reverse, lE] at this
        exact this
      have hx2 : xs[E.length - 1 - i]? = some x := by
        rw [← lE, ← List.getElem?_reverse (by rw [lE]; exact li)]
        exact hx
      obtain ⟨en, hen, t, rfl, ht⟩ := c.at hx2
      have kG := k1.trans k
      refine ⟨t, _, rfl, SqT.of (kG _ _ ht), rfl, _, _, rfl, _, _, rfl, rfl, ?_⟩
      have mN := tab.sub en (List.mem_of_getElem? hen)
      have hcol : ∀ j, j < n → vOf (R j en.1) = kV (keyAt R en.1 j) := fun j hj => vOf_ky (tab.ok j hj) mN
      refine ⟨_, rfl, a, rfl, ⟨_, SqL.of (kG _ _ hrs)⟩, fun D hD => w_list (xs := rs) (fun j G' => Same G G' ∧ G' D = some (.lst ((((List.range n).map (keyAt R en.1)).map kV).take j))) ⟨same_new hD, upd_same⟩ (fun j G' _ z => SqL.of (z.1 _ _ (kG _ _ hrs))) ?_ ?_⟩
      · rintro j x G' hx' ⟨k', at1⟩
        have jn : j < n := by
          have := (List.getElem?_eq_some_iff.mp hx').1
          omega
        obtain ⟨d, hd1, hd2⟩ := als j jn
        rw [hx'] at hd1
        cases hd1
        have kG' := kG.trans k'
        have ga : DGet G' d (.str en.1) (some (vOf (R j en.1))) := valV_map (f := fun x => vOf (R j x)) mN ▸ DGet.k (k := Sum.inr en.1) (kG' _ _ hd2)
        refine ⟨rfl, _, rfl, _, rfl, d, _, rfl, ga, _, at1, ?_, same_upd k' hD, ?_⟩
        · rw [List.length_take, sizeLine_eq, List.length_map, List.length_map, List.length_range]
          omega
        · rw [upd_same, List.take_add_one, List.getElem?_map, List.getElem?_map, List.getElem?_range jn]
          rw [hcol j jn]
          rfl
      · rintro G' ⟨k', at1⟩
        have lk : (((List.range n).map (keyAt R en.1)).map kV).length = n := by rw [List.length_map, List.length_map, List.length_range]
        rw [lrs, List.take_of_length_le (by rw [lk]; exact Nat.le_refl _)] at at1
        refine ⟨D, (List.range n).map (keyAt R en.1), rfl, .inl (SqL.of at1), by rw [List.length_map, List.length_range]; omega, fun A1 hA1 => ⟨A1, _, rfl, upd_same, ?_, ?_, fun zs p5 zp zm zl hp5 => ?_⟩⟩
        · have := len_sof ((List.range n).map (keyAt R en.1))
          rw [List.length_map, List.length_range] at this
          omega
        · exact oneK_col tab mN
        · have zm2 : ∀ k, k ∈ zs ↔ ∃ i, i < n ∧ k = keyAt R en.1 i := fun k => by
            rw [zm, mem_sof, List.mem_map]
            exact ⟨fun ⟨i, a, b⟩ => ⟨i, List.mem_range.mp a, b.symm⟩, fun ⟨i, a, b⟩ => ⟨i, List.mem_range.mpr a, b.symm⟩⟩
          generalize SetMO _ _ A1 _ = oS at hp5 ⊢
          have k5 : Same G (upd (upd G' A1 oS) p5 (.lst (zs.map kV))) := k'.trans ((same_new hA1).trans (same_new hp5))
          have a5 : upd (upd G' A1 oS) p5 (.lst (zs.map kV)) p5 = some (.lst (zs.map kV)) := upd_same
          generalize hG5 : upd (upd G' A1 oS) p5 (.lst (zs.map kV)) = G5 at k5 a5 ⊢
          have n5 : G p5 = none := by
            cases z : G p5 with
            | none => rfl
            | some o =>
              have := (k'.trans (same_new (o := oS) hA1)) _ _ z
              rw [hp5] at this
              cases this
          obtain ⟨sp1, sp2⟩ := sort_step (e := en) (E := E.drop (E.length - i)) (U := fun a b => a < b) ⟨tab.ok, fun z hz => by
            rcases List.mem_cons.mp hz with rfl | hz
            · exact mN
            · exact tab.sub z (List.mem_of_mem_drop hz)⟩ (fun a b (h1 : a < b) (h2 : b < a) => absurd h1 (by omega)) pm pP zp zm2
          have ed : en :: E.drop (E.length - i) = E.drop (E.length - (i + 1)) := by
            have e1 : E.length - (i + 1) = E.length - 1 - i := by omega
            obtain ⟨lt, ee⟩ := List.getElem?_eq_some_iff.mp hen
            rw [e1, List.drop_eq_getElem_cons lt, ee]
            congr 2
            omega
          rw [ed] at sp2
          refine ⟨_, rfl, rfl, _, rfl, ite2 (fun d => ?c1) (fun d => ?c2)⟩
          case' c1 =>
            have dn : en.2 = true := by
              cases hd : en.2 with
              | true => rfl
              | false => rw [hd] at d; exact absurd d (by decide +kernel)
            refine ⟨_, rfl, .inl ⟨rfl, _, SqL.of a5⟩, p5, _, rfl, rfl, a5, ?_⟩
            have k6 : Same G (upd G5 p5 (.lst (zs.map kV).reverse)) := same_upd k5 n5
            have a6 : upd G5 p5 (.lst (zs.map kV).reverse) p5 = some (.lst ((turnZ en.2 zs).map kV)) := by
              rw [upd_same, dn]
              show _ = some (HO.lst (zs.reverse.map kV))
              rw [List.map_reverse]
            generalize hG6 : upd G5 p5 (.lst (zs.map kV).reverse) = G6 at k6 a6 ⊢
          case' c2 =>
            have dn : en.2 = false := by
              cases hd : en.2 with
              | false => rfl
              | true => rw [hd] at d; exact absurd (by decide +kernel) d
            have k6 : Same G G5 := k5
            have a6 : G5 p5 = some (.lst ((turnZ en.2 zs).map kV)) := by
              rw [a5, dn]
              rfl
            generalize hG6 : G5 = G6 at k6 a6 ⊢
          all_goals
            have kG6 := kG.trans k6
            refine ⟨Nat.zero_le _, fun D6 hD6 => ?_⟩
            have k7 : Same G6 (upd G6 D6 (.lst [])) := same_new hD6
            refine ⟨_, rfl, p5, rfl, ⟨_, SqL.of (k7 _ _ a6)⟩, for_list (K := K) (a := p5) (xs := (turnZ en.2 zs).map kV) (fun j σ' G7 => ∃ y7 y8 y9, σ' = [some (.ref e), some (.ref a), some (.ref p), some (.str en.1), some (.str (wy en.2)), some (.ref p5), some (.ref D6), y7, y8, y9] ∧ Same G6 G7 ∧ G7 D6 = some (.lst (nums (buckets (keyAt R en.1) ((turnZ en.2 zs).take j) Pn)))) ⟨_, _, _, rfl, k7, upd_same⟩ (fun j σ' G7 _ ⟨_, _, _, _, k, _⟩ => SqL.of (k _ _ a6)) ?_ ?_⟩
            · rintro j v σ' G7 hv ⟨y7, y8, y9, rfl, k8, a8⟩
              obtain ⟨ky, hky, rfl⟩ : ∃ ky, (turnZ en.2 zs)[j]? = some ky ∧ v = kV ky := by
                rw [List.getElem?_map] at hv
                cases h2 : (turnZ en.2 zs)[j]? with
                | none => rw [h2] at hv; cases hv
                | some z => rw [h2] at hv; exact ⟨z, rfl, (Option.some.inj hv).symm⟩
              have kG8 := kG6.trans k8
              have aP8 := (k6.trans k8) _ _ aP
              refine ⟨_, rfl, .inl ⟨rfl, _, SqL.of a8⟩, _, rfl, p, rfl, ⟨_, SqL.of aP8⟩, fun C hC => w_list (xs := nums Pn) (fun m G8 => Same G7 G8 ∧ G8 C = some (.lst (nums ((Pn.take m).filter fun x => decide (keyAt R en.1 x = ky))))) ⟨same_new hC, upd_same⟩ (fun m G8 _ z => SqL.of (z.1 _ _ aP8)) ?_ ?_⟩
              · rintro m z G8 hz ⟨k9, a9⟩
                obtain ⟨sp, hsp, rfl⟩ : ∃ sp, Pn[m]? = some sp ∧ z = .int (sp : Int) := by
                  unfold nums at hz
                  rw [List.getElem?_map] at hz
                  cases h2 : Pn[m]? with
                  | none => rw [h2] at hz; cases hz
                  | some z => rw [h2] at hz; exact ⟨z, rfl, (Option.some.inj hz).symm⟩
                have spn : sp < n := List.mem_range.mp (pm.mem_iff.mp (List.mem_of_getElem? hsp))
                obtain ⟨d, hd1, hd2⟩ := als sp spn
                have kG9 := kG8.trans k9
                have ga : DGet G8 d (.str en.1) (some (kV (keyAt R en.1 sp))) := hcol sp spn ▸ (valV_map (f := fun x => vOf (R sp x)) mN ▸ DGet.k (k := Sum.inr en.1) (kG9 _ _ hd2))
                refine ⟨rfl, _, rfl, _, rfl, a, _, _, _, rfl, rfl, SqL.of (kG9 _ _ hrs), atI_nat hd1, _, rfl, d, _, rfl, ga, _, rfl, scal_kV _ _, _, rfl, ite2 (fun e2 => ?_) (fun e2 => ?_)⟩
                · have e3 : keyAt R en.1 sp = ky := kV_inj (of_decide_eq_true e2)
                  refine ⟨_, rfl, _, a9, ?_, same_upd k9 hC, ?_⟩
                  · have := List.length_filter_le (fun x => decide (keyAt R en.1 x = ky)) (Pn.take m)
                    rw [List.length_take] at this
                    have l2 := pm.length_eq
                    rw [List.length_range] at l2
                    rw [show ∀ M : List Nat, (nums M).length = M.length from fun M => List.length_map _, sizeLine_eq]
                    omega
                  · rw [upd_same, List.take_add_one, hsp, List.filter_append]
                    show _ = some (HO.lst (nums (_ ++ List.filter _ [sp])))
                    rw [List.filter_cons, if_pos (decide_eq_true e3), nums_app]
                    rfl
                · have e3 : ¬ keyAt R en.1 sp = ky := fun z => e2 (decide_eq_true (congrArg kV z))
                  refine ⟨k9, ?_⟩
                  rw [a9, List.take_add_one, hsp, List.filter_append]
                  show _ = some (HO.lst (nums (_ ++ List.filter _ [sp])))
                  rw [List.filter_cons, if_neg (fun z => e3 (of_decide_eq_true z)), List.filter_nil, List.append_nil]
              · rintro G8 ⟨k9, a9⟩
                have lp : (nums Pn).length = Pn.length := List.length_map _
                rw [lp, List.take_length] at a9
                have bk : nums (buckets (keyAt R en.1) ((turnZ en.2 zs).take (j + 1)) Pn) = nums (buckets (keyAt R en.1) ((turnZ en.2 zs).take j) Pn) ++ nums (Pn.filter fun x => decide (keyAt R en.1 x = ky)) := by
                  rw [← nums_app]
                  unfold buckets
                  rw [List.take_add_one, hky]
                  show nums (List.flatMap _ (_ ++ [ky])) = _
                  rw [List.flatMap_append, List.flatMap_cons, List.flatMap_nil, List.append_nil]
                refine ⟨D6, C, _, _, rfl, rfl, k9 _ _ a8, a9, ?_, _, _, _, rfl, same_upd (k8.trans k9) hD6, ?_⟩
                · have l1 := List.length_filter_le (fun x => decide (keyAt R en.1 x = ky)) Pn
                  have l2 := pm.length_eq
                  have l3 := sp1.length_eq
                  have l4 := bk_len (key := keyAt R en.1) (vs := turnZ en.2 zs) (L := Pn) j
                  rw [List.length_range] at l2 l3
                  rw [show ∀ M : List Nat, (nums M).length = M.length from fun M => List.length_map _, show ∀ M : List Nat, (nums M).length = M.length from fun M => List.length_map _, sizeLine_eq]
                  omega
                · rw [upd_same, bk]
            · rintro σ' G7 ⟨y7, y8, y9, rfl, k8, a8⟩
              rw [List.length_map, List.take_length] at a8
              exact ⟨_, rfl, D6, _, _, _, _, _, _, _, _, rfl, (k.trans k6).trans k8, a8, sp1, sp2⟩
    · rintro σ G ⟨p, y3, y4, y5, y6, y7, y8, y9, Pn, rfl, k, aP, pm, pP⟩
      rw [List.length_reverse, lE, Nat.sub_self, List.drop_zero] at pP
      exact ⟨_, rfl, q p Pn G (k1.trans k) pm pP aP⟩
end

end K18

set_option Elab.async false
set_option linter.all false
set_option maxRecDepth 100000
set_option maxHeartbeats 8000000
namespace K18
open PySem PySem.Spec L2 PSG PSS PSO
abbrev s__law_pairs_right : Stmt := topS 42
theorem sc__law_pairs_right : FnScope ["_law_order", "_law_entries_here", "_law_rows", "_law_back", "_law_one", "_law_other", "_law_due_here", "_law_signs_here", "_law_bare", "_law_some", "_law_shown", "_law_told", "_law_name", "_law_way"] ["_law_order", "_law_entries_here", "_law_rows"] (defScope s__law_pairs_right) := ⟨rfl, rfl, rfl, by decide +kernel, rfl, by decide +kernel, by decide +kernel⟩

theorem col_cps {x : Str} (c : Col x) : ∀ z ∈ x.cps.toList, z < 16 ^ 8 := by
  obtain ⟨ps, ne, le, al, e⟩ := c.parts
  have ab : ∀ z ∈ abc.cps.toList, z < 16 ^ 8 := by decide +kernel
  have one : ∀ p ∈ ps, ∀ z ∈ p.cps.toList, z < 16 ^ 8 := fun p hp z hz => ab z (let_mem.mp (al p hp).2 z hz)
  rw [TL.join_eq] at e
  match ps, ne, le with
  | [p], _, _ =>
    have e2 : p = x := e
    rw [← e2]
    exact one p List.mem_cons_self
  | [p, q], _, _ =>
    have e2 : p ++ "." ++ q = x := e
    rw [← e2]
    intro z hz
    rcases app_mem hz with h | h
    · rcases app_mem h with h | h
      · exact one p List.mem_cons_self z h
      · have e3 : z = 46 := by
          have : ("." : Str).cps.toList = [46] := by decide +kernel
          rw [this] at h
          exact List.mem_singleton.mp h
        rw [e3]
        decide
    · exact one q (List.mem_cons_of_mem _ List.mem_cons_self) z h
theorem col_shown {x : Str} (c : Col x) : (PyData.str x).shown.length ≤ 172 := by
  have l := PySem.StrLaws.reprText_len x (col_cps c)
  have h := c.hi
  show (reprText x).length ≤ 172
  omega
theorem sg_shown {i : Int} (h : Sg i) : (PyData.int i).showable = true ∧ (PyData.int i).shown.length ≤ 2 := by
  rcases h with rfl | rfl | rfl <;> exact ⟨by decide +kernel, by decide +kernel⟩
/-- a dict of columns with signs -/
def sgDs (kvs : List (Key × Int)) : PyData := .dict ((kvs.map fun p => (p.1, PyData.int p.2)).map fun q => (keyD q.1, q.2))
def SgKv (kvs : List (Key × Int)) : Prop := kvs.length ≤ 6 ∧ ∀ p ∈ kvs, (∃ x, p.1 = Sum.inr x ∧ Col x) ∧ Sg p.2
theorem sg_kv : ∀ {kvs : List (Key × Int)}, (∀ p ∈ kvs, (∃ x, p.1 = Sum.inr x ∧ Col x) ∧ Sg p.2) →
    PyData.showableKv ((kvs.map fun p => (p.1, PyData.int p.2)).map fun q => (keyD q.1, q.2)) = true ∧ ((PyData.shownKv ((kvs.map fun p => (p.1, PyData.int p.2)).map fun q => (keyD q.1, q.2))).map (·.length)).sum ≤ 200 * kvs.length ∧ PyData.depthKv ((kvs.map fun p => (p.1, PyData.int p.2)).map fun q => (keyD q.1, q.2)) ≤ 3
  | [], _ => ⟨rfl, by decide, by decide⟩
  | p :: r, h => by
    obtain ⟨h1, h2, h3⟩ := sg_kv fun q m => h q (List.mem_cons_of_mem _ m)
    obtain ⟨⟨x, ex, cx⟩, sg⟩ := h p List.mem_cons_self
    obtain ⟨s1, s2⟩ := sg_shown sg
    have s3 := col_shown cx
    obtain ⟨k, i⟩ := p
    dsimp only at ex s1 s2 ⊢
    subst ex
    have kd : keyD (Sum.inr x : Key) = .str x := rfl
    have l2 : (": " : Str).length = 2 := rfl
    simp only [List.map_cons, kd, PyData.showableKv, PyData.shownKv, PyData.depthKv, List.sum_cons, List.length_cons, s1, h1, PyData.showable, Bool.and_self, true_and, app_len, l2, PyData.depth]
    refine ⟨?_, ?_, ?_⟩
    · have s1' : decide (i.natAbs.log2 < 1920) = true := s1
      rw [s1']
      rfl
    · omega
    · omega
theorem join_le (ps : List Str) : (dictText ps).length ≤ (ps.map (·.length)).sum + ps.length * 2 + 2 := by
  have h : (Str.join ", " ps).length ≤ (ps.map (·.length)).sum + ps.length * 2   := PySem.StrLaws.join_length_le ", " ps
  have e : (dictText ps).length = 1 + (Str.join ", " ps).length + 1 := by
    unfold dictText
    rw [app_len, app_len]
    rfl
  omega
theorem sgDs_fine {kvs : List (Key × Int)} (h : SgKv kvs) : (sgDs kvs).showable = true ∧ (sgDs kvs).shown.length ≤ 1300 ∧ (sgDs kvs).depth ≤ 5 := by
  obtain ⟨few, al⟩ := h
  obtain ⟨h1, h2, h3⟩ := sg_kv al
  unfold sgDs
  refine ⟨by simpa only [PyData.showable] using h1, ?_, ?_⟩
  · have l := join_le (PyData.shownKv ((kvs.map fun p => (p.1, PyData.int p.2)).map fun q => (keyD q.1, q.2)))
    rw [PyData.shownKv_length, List.length_map, List.length_map] at l
    show (dictText _).length ≤ 1300
    omega
  · simp only [PyData.depth]
    omega
/-- three dicts in a list -/
theorem three_fine {a b c : List (Key × Int)} (ha : SgKv a) (hb : SgKv b) (hc : SgKv c) : (PyData.list [sgDs a, sgDs b, sgDs c]).showable = true ∧ (PyData.list [sgDs a, sgDs b, sgDs c]).shown.length ≤ sizeLine ∧ (PyData.list [sgDs a, sgDs b, sgDs c]).depth ≤ 60 := by
  obtain ⟨a1, a2, a3⟩ := sgDs_fine ha
  obtain ⟨b1, b2, b3⟩ := sgDs_fine hb
  obtain ⟨c1, c2, c3⟩ := sgDs_fine hc
  refine ⟨by simp only [PyData.showable, PyData.showableAll, a1, b1, c1, Bool.and_self], ?_, ?_⟩
  · have l := listText_len_le (PyData.shownAll [sgDs a, sgDs b, sgDs c])
    simp only [PyData.shownAll, List.map_cons, List.map_nil, List.sum_cons, List.sum_nil, List.length_cons, List.length_nil] at l
    show (listText (PyData.shownAll [sgDs a, sgDs b, sgDs c])).length ≤ sizeLine
    simp only [PyData.shownAll]
    rw [sizeLine_eq]
    omega
  · simp only [PyData.depth, PyData.depthAll]
    omega
theorem five_fine {a b c d e : Int} (ha : Sg a) (hb : Sg b) (hc : Sg c) (hd : Sg d) (he : Sg e) : (PyData.list [.int a, .int b, .int c, .int d, .int e]).showable = true ∧ (PyData.list [.int a, .int b, .int c, .int d, .int e]).shown.length ≤ sizeLine ∧ (PyData.list [.int a, .int b, .int c, .int d, .int e]).depth ≤ 60 := by
  obtain ⟨a1, a2⟩ := sg_shown ha
  obtain ⟨b1, b2⟩ := sg_shown hb
  obtain ⟨c1, c2⟩ := sg_shown hc
  obtain ⟨d1, d2⟩ := sg_shown hd
  obtain ⟨e1, e2⟩ := sg_shown he
  refine ⟨by simp only [PyData.showable] at a1 b1 c1 d1 e1; simp only [PyData.showable, PyData.showableAll, a1, b1, c1, d1, e1, Bool.and_self], ?_, ?_⟩
  · have l := listText_len_le (PyData.shownAll [.int a, .int b, .int c, .int d, .int e])
    simp only [PyData.shownAll, List.map_cons, List.map_nil, List.sum_cons, List.sum_nil, List.length_cons, List.length_nil] at l
    show (listText (PyData.shownAll [.int a, .int b, .int c, .int d, .int e])).length ≤ sizeLine
    simp only [PyData.shownAll]
    rw [sizeLine_eq]
    omega
  · simp only [PyData.depth, PyData.depthAll]
    omega
theorem sg_neg {i : Int} (h : Sg i) : Sg (-i) := by
  unfold Sg at *
  omega
theorem sgE_congr {g h : Str → Int} : ∀ {E : List Ent}, (∀ e ∈ E, g e.1 = h e.1) → sgE g E = sgE h E
  | [], _ => rfl
  | e :: r, hh => by
    have ih := sgE_congr fun x m => hh x (List.mem_cons_of_mem _ m)
    have h0 := hh e List.mem_cons_self
    show (if g e.1 = 0 then sgE g r else if e.2 = true then -(g e.1) else g e.1) = (if h e.1 = 0 then sgE h r else if e.2 = true then -(h e.1) else h e.1)
    rw [h0, ih]
/-- what only the later entries are asked of -/
def gTail (g : Str → Int) (E : List Ent) (x : Str) : Int := if x ∈ (E.drop 1).map (·.1) then g x else 0
theorem sgE_gTail {g : Str → Int} {E : List Ent} (nd : (E.map (·.1)).Nodup) : sgE (gTail g E) E = sgE g (E.drop 1) := by
  cases E with
  | nil => rfl
  | cons e r =>
    have z : gTail g (e :: r) e.1 = 0 := if_neg (List.nodup_cons.mp nd).1
    have d : (e :: r).drop 1 = r := rfl
    rw [d]
    show (if gTail g (e :: r) e.1 = 0 then sgE (gTail g (e :: r)) r else _) = _
    rw [if_pos z]
    refine sgE_congr fun x hx => if_pos ?_
    exact List.mem_map_of_mem hx
theorem sgE_zeros {E : List Ent} : sgE (fun _ => 0) E = 0 := by
  induction E with
  | nil => rfl
  | cons e r ih => exact ih
theorem EntsAt.drop1 {H : Hp} : ∀ {vs : List V} {es : List Ent}, EntsAt H vs es → EntsAt H (vs.drop 1) (es.drop 1)
  | [], [], h => h
  | _ :: _, _ :: _, ⟨_, h⟩ => h
theorem paired_mp {α β γ : Type} {R : β → γ → Prop} {f : α → β} {g : α → γ} (h : ∀ a, R (f a) (g a)) : ∀ l : List α, Paired R (l.map f) (l.map g)
  | [] => .nil
  | a :: r => .cons (h a) (paired_mp h r)
def dkI (kvs : List (Key × Int)) : List (Key × V) := kvs.map fun p => (p.1, V.int p.2)
theorem dt_sg {H : Hp} {a : Addr} {kvs : List (Key × Int)} (h : H a = some (.dK (dkI kvs))) : Dt true H (.ref a) (sgDs kvs) := .dict h (paired_mp (fun _ => ⟨rfl, rfl⟩) kvs)
def threeT (ka kb kc : List (Key × Int)) : Str := (PyData.list [sgDs ka, sgDs kb, sgDs kc]).shown
theorem rep_three {H : Hp} {L a b c : Addr} {ka kb kc : List (Key × Int)} {Q : VK} (hL : H L = some (.lst [.ref a, .ref b, .ref c])) (far : L ≠ sysModules) (ha : H a = some (.dK (dkI ka))) (hb : H b = some (.dK (dkI kb))) (hc : H c = some (.dK (dkI kc))) (sa : SgKv ka) (sb : SgKv kb) (sc : SgKv kc) (q : Q (.str (threeT ka kb kc)) H) : rRep [.ref L] H Q := by
  obtain ⟨f1, f2, f3⟩ := three_fine sa sb sc
  exact ⟨_, _, true, rfl, .lst hL (fun _ => far) (.cons (dt_sg ha) (.cons (dt_sg hb) (.cons (dt_sg hc) .nil))), fun _ => .inl rfl, f1, f2, f3, q⟩
def fiveT (a b c d e : Int) : Str := (PyData.list [.int a, .int b, .int c, .int d, .int e]).shown
theorem rep_five {H : Hp} {L : Addr} {a b c d e : Int} {Q : VK} (hL : H L = some (.lst [.int a, .int b, .int c, .int d, .int e])) (ha : Sg a) (hb : Sg b) (hc : Sg c) (hd : Sg d) (he : Sg e) (q : Q (.str (fiveT a b c d e)) H) : rRep [.ref L] H Q := by
  obtain ⟨f1, f2, f3⟩ := five_fine ha hb hc hd he
  exact ⟨_, _, false, rfl, .lst hL (fun z => nomatch z) (.cons (.int _) (.cons (.int _) (.cons (.int _) (.cons (.int _) (.cons (.int _) .nil))))), fun z => absurd z (by simp [PyData.hasDict, PyData.hasDictAll]), f1, f2, f3, q⟩
theorem rep_five2 {H : Hp} {L : Addr} {a b c c' d e : Int} {Q : VK} (hL : H L = some (.lst [.int a, .int b, .int c, .int d, .int e])) (ec : c = c') (ha : Sg a) (hb : Sg b) (hc : Sg c') (hd : Sg d) (he : Sg e) (q : Q (.str (fiveT a b c' d e)) H) : rRep [.ref L] H Q := by
  subst ec
  exact rep_five hL ha hb hc hd he q
def kN (N : List Str) (r q : Row) : List (Key × Int) := N.map fun x => (Sum.inr x, gR r q x)
theorem sgKV_eq {N : List Str} {r q : Row} : sgKV N r q = dkI (kN N r q) := by
  unfold sgKV dkI kN
  rw [List.map_map]
  rfl
def kE (E : List Ent) (r q : Row) : List (Key × Int) := E.map fun en => (Sum.inr en.1, gR r q en.1)
theorem kE_eq {E : List Ent} {r q : Row} : (E.map fun en => ((Sum.inr en.1 : Key), V.int (gR r q en.1))) = dkI (kE E r q) := by
  unfold dkI kE
  rw [List.map_map]
  rfl
theorem kE_eq2 {E : List Ent} {r q : Row} : dkI (kE E r q) = (E.map (·.1)).map fun x => ((Sum.inr x : Key), V.int (gR r q x)) := by
  unfold dkI kE
  rw [List.map_map, List.map_map]
  rfl
theorem givesN {H : Hp} {d : Addr} {N : List Str} {r q : Row} {E : List Ent} (h : H d = some (.dK (dkI (kN N r q)))) (sub : ∀ e ∈ E, e.1 ∈ N) : GivesS H d (gR r q) E := ⟨_, h, fun e he => by
  rw [← sgKV_eq]
  unfold sgKV
  rw [valV_map (f := fun x => V.int (gR r q x)) (sub e he)]
  rfl⟩
theorem givesE {H : Hp} {d : Addr} {r q : Row} {E : List Ent} (h : H d = some (.dK (dkI (kE (E.drop 1) r q)))) : GivesS H d (gTail (gR r q) E) E := ⟨_, h, fun e he => by
  rw [kE_eq2]
  unfold gTail
  by_cases z : e.1 ∈ (E.drop 1).map (·.1)
  · rw [valV_map (f := fun x => V.int (gR r q x)) z, if_pos z]
    rfl
  · rw [valV_none (f := fun x => V.int (gR r q x)) z, if_neg z]
    rfl⟩
theorem givesZ {H : Hp} {d : Addr} {E : List Ent} (h : H d = some (.dK [])) : GivesS H d (fun _ => 0) E := ⟨_, h, fun e he => rfl⟩
theorem skN {N : List Str} {kk : Str → Bool} {r q : Row} (nms : Names N) (hr : RowOk N kk r) (hq : RowOk N kk q) : SgKv (kN N r q) := by
  refine ⟨by unfold kN; rw [List.length_map]; exact nms.hi, fun p hp => ?_⟩
  unfold kN at hp
  obtain ⟨x, hx, rfl⟩ := List.mem_map.mp hp
  exact ⟨⟨x, rfl, nms.col x hx⟩, (gR_facts hr hq hq hx).2.1⟩
theorem skE {N : List Str} {kk : Str → Bool} {r q : Row} {E : List Ent} (nms : Names N) (hr : RowOk N kk r) (hq : RowOk N kk q) (few : E.length ≤ 6) (sub : ∀ e ∈ E, e.1 ∈ N) : SgKv (kE E r q) := by
  refine ⟨by unfold kE; rw [List.length_map]; exact few, fun p hp => ?_⟩
  unfold kE at hp
  obtain ⟨e, he, rfl⟩ := List.mem_map.mp hp
  exact ⟨⟨e.1, rfl, nms.col _ (sub e he)⟩, (gR_facts hr hq hq (sub e he)).2.1⟩
section
variable {P : Program} {w : World} {K : PySem.W.Frag} {mg : Str → Option Value} {base : Heap}
def spPairs (C : Addr) : Sp := fun vs H Q _ => ∃ (o e a : Addr) (xs : List V) (N : List Str) (kk : Str → Bool) (R : Nat → Row) (n : Nat) (E : List Ent), vs = [.ref o, .ref e, .ref a] ∧ OrdAt C H o E ∧ H e = some (.lst xs) ∧ EntsAt H xs E ∧ EOk E ∧ RowsAt H a N R n ∧ Names N ∧ Tab N kk R n E ∧ E.length ≤ 6 ∧ ∀ H', Same H H' → Q (.bl true) H'
theorem ok_pairs {C f f1 f2 f3 f4 : Addr} {fd d1 d2 d3 d4 : FuncData} (F : Fun K "_law_pairs_right" "_law_pairs_right" s__law_pairs_right f fd) (T : Blt mg) (O : OrdC K mg C) (M_sign : Meth K C "sign" f1) (b_sign : Binds K d1 ["self", "signs"] []) (G_sign : FnOk P w K mg base CX0 2 f1 d1 ["self", "signs"] (spOSign C))
    (F__law_signs : Fun K "_law_signs" "_law_signs" s__law_signs f2 d2) (b__law_signs : Binds K d2 ["_law_one", "_law_other"] []) (g__law_signs : mg "_law_signs" = some (.ref f2)) (G__law_signs : FnOk P w K mg base CX0 4 f2 d2 ["_law_one", "_law_other"] spSigns)
    (F__law_due : Fun K "_law_due" "_law_due" s__law_due f3 d3) (b__law_due : Binds K d3 ["_law_entries_here", "_law_one", "_law_other"] []) (g__law_due : mg "_law_due" = some (.ref f3))
    (M_backwards : Meth K C "backwards" f4) (b_backwards : Binds K d4 ["self"] []) (G_backwards : FnOk P w K mg base CX0 7 f4 d4 ["self"] (spBack C)) :
    FnG P w K mg base CX0 8 f fd ["_law_order", "_law_entries_here", "_law_rows"] (spPairs C) := by
  have sc := sc__law_pairs_right
  have G__law_due : FnOk P w K mg base CX0 1 f3 d3 ["_law_entries_here", "_law_one", "_law_other"] spDue := ok_due F__law_due
  refine okG F sc (fun vs H Q E h => ?_) (fun cdv B up s H vs Q E hr gd h => ?_)
  · obtain ⟨o, e, a, xs, N, kk, R, n, E, rfl, _⟩ := h
    rfl
  · obtain ⟨o, e, a, xs, N, kk, R, n, E, rfl, ho, he, c, eok, hR, nms, tab, lE6, q⟩ := h
    have lE := c.len
    obtain ⟨rs, hrs, lrs, als⟩ := id hR
    refine ⟨_, (pss_cons (ps_set (i := 3) sc.nd rfl (.inl rfl) (pe_meth0 (pv 0) O.cl M_backwards G_backwards (hr.mono (by decide)) b_backwards .nil pass0))
      (pss_cons (ps_for PassesOwn.never (by rfl) (pi_list (pv 2)) (pg_name (i := 4) sc.nd rfl (.inl rfl)) (pss_one (ps_for PassesOwn.never (by rfl) (pi_list (pv 2)) (pg_name (i := 5) sc.nd rfl (.inl rfl)) (pss_cons (ps_set (i := 6) sc.nd rfl (.inl rfl) (pe_call G__law_due (hr.mono (by decide)) (by rfl) g__law_due F__law_due.kp b__law_due .nil pass0 (pa_cons (pv 1) (pa_cons (pv 4) (pa_cons (pv 5) pa_nil)))))
      (pss_cons (ps_asg (pe_tup (pa_cons (pe_call G__law_signs (hr.mono (by decide)) (by rfl) g__law_signs F__law_signs.kp b__law_signs .nil pass0 (pa_cons (pv 4) (pa_cons (pv 5) pa_nil))) (pa_cons pe_dnewK pa_nil))) (pg_tup (by rfl) (pgs_cons (pg_name (i := 7) sc.nd rfl (.inr rfl)) (pgs_cons (pg_name (i := 8) sc.nd rfl (.inl rfl)) pgs_nil))))
      (pss_cons (ps_set (i := 9) sc.nd rfl (.inl rfl) (pe_callTy (call_dictP rfl) (by rfl) T.n_dict (by decide +kernel) (pa_cons (pe_lc (own := [("_law_name", 12), ("_law_way", 13)]) (g := gTup K 2 _) (tt := tYes) (by rfl) sc.nd (pi_list (pe_slice sl_list (pv 1) (po_some pe_int) po_none)) (blkOk_by (own := [("_law_name", 12), ("_law_way", 13)]) (N := ["_law_order", "_law_entries_here", "_law_rows", "_law_back", "_law_one", "_law_other", "_law_due_here", "_law_signs_here", "_law_bare", "_law_some", "_law_shown", "_law_told", "_law_name", "_law_way"]) (sc := defScope s__law_pairs_right) (by decide +kernel)) (fun _ _ _ _ _ => pg_tup (by rfl) (pgs_cons (pg_name (i := 12) sc.nd rfl (Or.inl rfl)) (pgs_cons (pg_name (i := 13) sc.nd rfl (Or.inl rfl)) pgs_nil))) (fun _ _ _ _ _ => pts_nil) (fun _ _ _ _ _ => (pe_tup (pa_cons (pv 12) (pa_cons (pe_dget (hu_of hr) (pv 7) (pv 12) (fun _ _ => rfl)) pa_nil))))) pa_nil)))
      (pss_cons (ps_set (i := 10) sc.nd rfl (.inl rfl) (pe_callB (call_reprH (by have z := room_units hr; exact z) gd) (by rfl) T.n_repr (by decide +kernel) (pa_cons (pe_lstF (pa_cons (pv 7) (pa_cons (pv 9) (pa_cons (pv 8) pa_nil)))) pa_nil)))
      (pss_cons (ps_set (i := 11) sc.nd rfl (.inl rfl) (pe_lst (pa_cons (pe_meth (pv 0) O.cl M_sign G_sign (hr.mono (by decide)) b_sign .nil pass0 (pa_cons (pv 7) pa_nil)) (pa_cons (pe_meth (pv 0) O.cl M_sign G_sign (hr.mono (by decide)) b_sign .nil pass0 (pa_cons (pv 7) pa_nil)) (pa_cons (pe_meth (pv 3) O.cl M_sign G_sign (hr.mono (by decide)) b_sign .nil pass0 (pa_cons (pv 7) pa_nil)) (pa_cons (pe_meth (pv 0) O.cl M_sign G_sign (hr.mono (by decide)) b_sign .nil pass0 (pa_cons (pv 9) pa_nil)) (pa_cons (pe_meth (pv 0) O.cl M_sign G_sign (hr.mono (by decide)) b_sign .nil pass0 (pa_cons (pv 8) pa_nil)) pa_nil)))))))
      (pss_cons (ps_if (pt_cmpR op_ne (pe_callB (call_reprH (by have z := room_units hr; exact z) gd) (by rfl) T.n_repr (by decide +kernel) (pa_cons (pv 11) pa_nil)) (pe_callB (call_reprH (by have z := room_units hr; exact z) gd) (by rfl) T.n_repr (by decide +kernel) (pa_cons (pe_lst (pa_cons (pv 6) (pa_cons (pv 6) (pa_cons (pe_op op_sub pe_int (pv 6)) (pa_cons (pe_call G__law_due (hr.mono (by decide)) (by rfl) g__law_due F__law_due.kp b__law_due .nil pass0 (pa_cons (pe_slice sl_list (pv 1) (po_some pe_int) po_none) (pa_cons (pv 4) (pa_cons (pv 5) pa_nil)))) (pa_cons pe_int pa_nil)))))) pa_nil)) (nomark _)) (pss_one (ps_ret pe_bl)) pss_nil)
      (pss_one (ps_if (pt_cmpR op_ne (pe_callB (call_reprH (by have z := room_units hr; exact z) gd) (by rfl) T.n_repr (by decide +kernel) (pa_cons (pe_lstF (pa_cons (pv 7) (pa_cons (pv 9) (pa_cons (pv 8) pa_nil)))) pa_nil)) (pv 10) (nomark _)) (pss_one (ps_ret pe_bl)) pss_nil)))))))))))
      (pss_one (ps_ret pe_bl)))), ?_⟩
    obtain ⟨dx, tx, xsO, hoa, hob, hoc⟩ := id ho.ex
    refine ⟨_, rfl, o, dx, _, rfl, hoa, rfl, o, E, rfl, ho, eok, fun ob H1 k1 hb => ?_⟩
    refine ⟨_, rfl, a, rfl, ⟨_, SqL.of (k1 _ _ hrs)⟩, for_list (K := K) (a := a) (xs := rs) (fun i σ G => ∃ y4 y5 y6 y7 y8 y9 y10 y11 y12 y13, σ = [some (.ref o), some (.ref e), some (.ref a), some (.ref ob), y4, y5, y6, y7, y8, y9, y10, y11, y12, y13] ∧ Same H1 G) ⟨_, _, _, _, _, _, _, _, _, _, rfl, Same.refl _⟩ (fun i σ G _ ⟨_, _, _, _, _, _, _, _, _, _, _, k⟩ => SqL.of (k _ _ (k1 _ _ hrs))) ?_ ?_⟩
    · rintro i v σ G hv ⟨y4, y5, y6, y7, y8, y9, y10, y11, y12, y13, rfl, k2⟩
      have li : i < n := by
        have := (List.getElem?_eq_some_iff.mp hv).1
        omega
      obtain ⟨d1, hd1, hd1b⟩ := als i li
      rw [hv] at hd1
      cases hd1
      refine ⟨_, rfl, a, rfl, ⟨_, SqL.of ((k1.trans k2) _ _ hrs)⟩, for_list (K := K) (a := a) (xs := rs) (fun j σ G => ∃ y5 y6 y7 y8 y9 y10 y11 y12 y13, σ = [some (.ref o), some (.ref e), some (.ref a), some (.ref ob), some (.ref d1), y5, y6, y7, y8, y9, y10, y11, y12, y13] ∧ Same H1 G) ⟨_, _, _, _, _, _, _, _, _, rfl, k2⟩ (fun i σ G _ ⟨_, _, _, _, _, _, _, _, _, _, k⟩ => SqL.of (k _ _ (k1 _ _ hrs))) ?_ ?_⟩
      · rintro j0 v σ G3 hv ⟨y5, y6, y7, y8, y9, y10, y11, y12, y13, rfl, k3⟩
        have lj : j0 < n := by
          have := (List.getElem?_eq_some_iff.mp hv).1
          omega
        obtain ⟨d2, hd2, hd2b⟩ := als j0 lj
        rw [hv] at hd2
        cases hd2
        have kG3 := k1.trans k3
        refine ⟨_, rfl, _, rfl, _, rfl, e, d1, d2, xs, E, N, kk, R i, R j0, rfl, kG3 _ _ he, c.mono (fun _ _ z => kG3 _ _ z), tab.sub, kG3 _ _ hd1b, kG3 _ _ hd2b, tab.ok i li, tab.ok j0 lj, fun G4 k4 => ?_⟩
        have kG4 := kG3.trans k4
        refine ⟨_, rfl, _, rfl, d1, d2, N, kk, R i, R j0, rfl, nms.nd, nms.hi, kG4 _ _ hd1b, kG4 _ _ hd2b, tab.ok i li, tab.ok j0 lj, fun D1 G5 nD1 k5 aD1 D2 hD2 => ?_⟩
        refine ⟨(by show 2 ≤ sizeLine; decide), fun TT hT => ?_⟩
        have k6 : Same G5 (upd (upd G5 D2 (.dK [])) TT (.tup [.ref D1, .ref D2])) := (same_new hD2).trans (same_new hT)
        refine ⟨TT, _, rfl, SqT.of upd_same, rfl, _, _, rfl, _, _, rfl, rfl, ?_⟩
        have aD2 : upd (upd G5 D2 (.dK [])) TT (.tup [.ref D1, .ref D2]) D2 = some (.dK []) := (upd_ne (ne_of_none upd_same hT)).trans upd_same
        have aD1b := k6 _ _ aD1
        have kG6 := (kG4.trans k5).trans k6
        have k36 := (k4.trans k5).trans k6
        generalize upd (upd G5 D2 (.dK [])) TT (.tup [.ref D1, .ref D2]) = G6 at k6 aD2 aD1b kG6 k36 ⊢
        refine ⟨_, rfl, _, rfl, e, _, rfl, SqL.of (kG6 _ _ he), fun S hS => ?_⟩
        have k7 : Same G6 (upd G6 S (.lst (cutV xs (some ((1 : Nat) : Int)) none))) := same_new hS
        have aS : upd G6 S (.lst (cutV xs (some ((1 : Nat) : Int)) none)) S = some (.lst (xs.drop 1)) := upd_same.trans (by rw [cut_from])
        have cD : EntsAt G6 (xs.drop 1) (E.drop 1) := EntsAt.drop1 (c.mono fun _ _ z => kG6 _ _ z)
        have cD7 := cD.mono (H' := upd G6 S (.lst (cutV xs (some ((1 : Nat) : Int)) none))) fun _ _ z => k7 _ _ z
        have aD1c := k7 _ _ aD1b
        have aD2c := k7 _ _ aD2
        have k37 := k36.trans k7
        have kG7 := kG6.trans k7
        generalize upd G6 S (.lst (cutV xs (some ((1 : Nat) : Int)) none)) = G7 at k7 aS cD7 aD1c aD2c k37 kG7 ⊢
        refine ⟨S, rfl, ⟨_, SqL.of aS⟩, fun D hD => w_list (xs := xs.drop 1) (fun m G => Same G7 G ∧ ∃ ps : List Addr, G D = some (.lst (ps.map V.ref)) ∧ ps.length = m ∧ ∀ j p, ps[j]? = some p → ∃ en : Ent, (E.drop 1)[j]? = some en ∧ G p = some (.tup [.str en.1, .int (gR (R i) (R j0) en.1)])) ⟨same_new hD, [], upd_same, rfl, fun (j : Nat) (p : Addr) (e : ([] : List Addr)[j]? = some p) => absurd e (by simp)⟩ (fun m G _ z => SqL.of (z.1 _ _ aS)) ?_ ?_⟩
        · rintro m y G hy ⟨k, ps, aD, lp, al⟩
          obtain ⟨en, hen, b3, rfl, hb3⟩ := cD7.at hy
          have mE : en ∈ E := List.mem_of_mem_drop (List.mem_of_getElem? hen)
          have mN := tab.sub en mE
          have ga : DGet G D1 (.str en.1) (some (.int (gR (R i) (R j0) en.1))) := valV_map (f := fun x => V.int (gR (R i) (R j0) x)) mN ▸ DGet.k (k := Sum.inr en.1) (k _ _ aD1c)
          refine ⟨b3, _, rfl, SqT.of ((k _ _ hb3)), rfl, _, _, rfl, _, _, rfl, rfl, rfl, _, rfl, _, rfl, _, rfl, D1, _, rfl, ga, (by show 2 ≤ sizeLine; decide), fun t ht => ?_⟩
          have ntD : D ≠ t := ne_of_none aD ht
          have lt : m < (xs.drop 1).length := (List.getElem?_eq_some_iff.mp hy).1
          have lt2 : m < 6 := by
            rw [List.length_drop, lE] at lt
            omega
          refine ⟨_, (upd_ne ntD).trans aD, by rw [List.length_map, sizeLine_eq]; omega, fun c o e => (upd_ne (ne_of_none e hD)).trans ((upd_ne (ne_of_none (k _ _ e) ht)).trans (k _ _ e)), ps ++ [t], ?_, by rw [List.length_append, lp]; rfl, fun j p hj => ?_⟩
          · refine upd_same.trans ?_
            rw [List.map_append]
            rfl
          · by_cases lj : j < ps.length
            · rw [List.getElem?_append_left lj] at hj
              obtain ⟨y, hy, hp⟩ := al j p hj
              have npD : p ≠ D := fun z => by
                rw [z, aD] at hp
                cases hp
              exact ⟨y, hy, (upd_ne npD).trans ((upd_ne (ne_of_none hp ht)).trans hp)⟩
            · rw [List.getElem?_append_right (Nat.le_of_not_lt lj)] at hj
              have j0 : j - ps.length = 0 := Nat.lt_one_iff.mp (List.getElem?_eq_some_iff.mp hj).1
              rw [j0] at hj
              obtain rfl : t = p := Option.some.inj hj
              have ej : j = m := (Nat.le_antisymm (Nat.sub_eq_zero_iff_le.mp j0) (Nat.le_of_not_lt lj)).trans lp
              rw [ej]
              exact ⟨en, hen, (upd_ne ntD.symm).trans upd_same⟩
        · rintro G ⟨k, ps, aD, lp, al⟩
          have lD : (xs.drop 1).length = (E.drop 1).length := by rw [List.length_drop, List.length_drop, lE]
          have prs : Paired (fun p (kv : Key × V) => SqT K G p [kV kv.1, kv.2]) ps ((E.drop 1).map fun en => ((Sum.inr en.1 : Key), V.int (gR (R i) (R j0) en.1))) := by
            refine paired_at (by rw [List.length_map, lp, lD]) fun j p kv hp hkv => ?_
            obtain ⟨en, hen, e⟩ := al j p hp
            rw [List.getElem?_map, hen] at hkv
            obtain rfl := Option.some.inj hkv
            exact SqT.of e
          refine ⟨D, ps, _, rfl, SqL.of aD, prs, fun D3 hD3 => ?_⟩
          have mg : mergeK [] ((E.drop 1).map fun en => ((Sum.inr en.1 : Key), V.int (gR (R i) (R j0) en.1))) = ((E.drop 1).map fun en => ((Sum.inr en.1 : Key), V.int (gR (R i) (R j0) en.1))) := by
            have := merge_new (more := (E.drop 1).map fun en => ((Sum.inr en.1 : Key), V.int (gR (R i) (R j0) en.1))) (acc := []) (by
              rw [List.nil_append, List.map_map]
              have nd1 : ((E.drop 1).map (·.1)).Nodup := by
                rw [List.map_drop]
                exact List.Sublist.nodup (List.drop_sublist _ _) eok.nd
              exact List.Pairwise.map _ (fun x y n z => n (Sum.inr.inj z)) (List.pairwise_map.mp nd1))
            rwa [List.nil_append] at this
          rw [mg]
          have k8 : Same G7 (upd G D3 (.dK ((E.drop 1).map fun en => ((Sum.inr en.1 : Key), V.int (gR (R i) (R j0) en.1))))) := k.trans (same_new hD3)
          have aD3 : upd G D3 (.dK ((E.drop 1).map fun en => ((Sum.inr en.1 : Key), V.int (gR (R i) (R j0) en.1)))) D3 = some (.dK ((E.drop 1).map fun en => ((Sum.inr en.1 : Key), V.int (gR (R i) (R j0) en.1)))) := upd_same
          generalize upd G D3 (.dK ((E.drop 1).map fun en => ((Sum.inr en.1 : Key), V.int (gR (R i) (R j0) en.1)))) = G8 at k8 aD3 ⊢
          have kG8 := kG7.trans k8
          have aD1d := k8 _ _ aD1c
          have aD2d := k8 _ _ aD2c
          refine ⟨_, rfl, _, rfl, _, rfl, (by show 3 ≤ sizeLine; decide), fun L1 hL1 far1 => ?_⟩
          rw [sgKV_eq] at aD1d
          rw [kE_eq] at aD3
          have k9 : Same G8 (upd G8 L1 (.lst [.ref D1, .ref D3, .ref D2])) := same_new hL1
          have s1 := skN nms (tab.ok i li) (tab.ok j0 lj)
          have subT : ∀ e ∈ E.drop 1, e.1 ∈ N := fun z hz => tab.sub z (List.mem_of_mem_drop hz)
          have s3 := skE (E := E.drop 1) nms (tab.ok i li) (tab.ok j0 lj) (by rw [List.length_drop]; omega) subT
          have s2 : SgKv ([] : List (Key × Int)) := ⟨by decide, fun p hp => by cases hp⟩
          dsimp only [tNil]
          refine rep_three (ka := kN N (R i) (R j0)) (kb := kE (E.drop 1) (R i) (R j0)) (kc := []) upd_same far1 (k9 _ _ aD1d) (k9 _ _ aD3) (k9 _ _ aD2d) s1 s3 s2 ?_
          have kG9 := kG8.trans k9
          have k39 := (k37.trans k8).trans k9
          have aD1e := k9 _ _ aD1d
          have aD2e := k9 _ _ aD2d
          have aD3e := k9 _ _ aD3
          generalize upd G8 L1 (.lst [.ref D1, .ref D3, .ref D2]) = G9 at kG9 k39 aD1e aD2e aD3e ⊢
          have gS : Sg (sgE (gR (R i) (R j0)) E) := sgE_sg fun z hz => (gR_facts (tab.ok i li) (tab.ok j0 lj) (tab.ok j0 lj) (tab.sub z hz)).2.1
          have gT : Sg (sgE (gR (R i) (R j0)) (E.drop 1)) := sgE_sg fun z hz => (gR_facts (tab.ok i li) (tab.ok j0 lj) (tab.ok j0 lj) (subT z hz)).2.1
          have subF : ∀ e ∈ E.map flipE, e.1 ∈ N := fun z hz => by
            obtain ⟨z', hz', rfl⟩ := List.mem_map.mp hz
            exact tab.sub z' hz'
          have k19 : Same H1 G9 := k3.trans k39
          obtain ⟨dxb, txb, xsb, hba, hbb, hbc⟩ := id hb.ex
          refine ⟨_, rfl, o, dx, _, rfl, kG9 _ _ hoa, rfl, _, rfl, o, D1, E, _, rfl, ho.same kG9, givesN aD1e tab.sub, fun Ga ka => ?_⟩
          have kGa := kG9.trans ka
          refine ⟨_, rfl, o, dx, _, rfl, kGa _ _ hoa, rfl, _, rfl, o, D1, E, _, rfl, ho.same kGa, givesN (ka _ _ aD1e) tab.sub, fun Gb kb => ?_⟩
          have kab := ka.trans kb
          have kGb := kG9.trans kab
          refine ⟨_, rfl, ob, dxb, _, rfl, (k19.trans kab) _ _ hba, rfl, _, rfl, ob, D1, E.map flipE, _, rfl, hb.same (k19.trans kab), givesN (kab _ _ aD1e) subF, fun Gc kc => ?_⟩
          have kac := kab.trans kc
          have kGc := kG9.trans kac
          refine ⟨_, rfl, o, dx, _, rfl, kGc _ _ hoa, rfl, _, rfl, o, D3, E, _, rfl, ho.same kGc, givesE (kac _ _ aD3e), fun Gd kd => ?_⟩
          have kad := kac.trans kd
          have kGd := kG9.trans kad
          refine ⟨_, rfl, o, dx, _, rfl, kGd _ _ hoa, rfl, _, rfl, o, D2, E, _, rfl, ho.same kGd, givesZ (kad _ _ aD2e), fun Ge ke => ?_⟩
          have kae := kad.trans ke
          have kGe := kG9.trans kae
          rw [sgE_neg, sgE_gTail eok.nd, sgE_zeros]
          refine ⟨(by show 5 ≤ sizeLine; decide), fun L2 hL2 => ?_⟩
          have k10 : Same Ge (upd Ge L2 (.lst [.int (sgE (gR (R i) (R j0)) E), .int (sgE (gR (R i) (R j0)) E), .int (-(sgE (gR (R i) (R j0)) E)), .int (sgE (gR (R i) (R j0)) (E.drop 1)), .int 0])) := same_new hL2
          refine ⟨_, rfl, ?_⟩
          dsimp only [tNil]
          refine rep_five upd_same gS gS (sg_neg gS) gT (.inr (.inl rfl)) ?_
          have kGf := kGe.trans k10
          have kaf := kae.trans k10
          generalize upd Ge L2 (.lst [.int (sgE (gR (R i) (R j0)) E), .int (sgE (gR (R i) (R j0)) E), .int (-(sgE (gR (R i) (R j0)) E)), .int (sgE (gR (R i) (R j0)) (E.drop 1)), .int 0]) = Gf at kGf kaf ⊢
          refine ⟨_, rfl, _, rfl, _, rfl, _, _, rfl, rfl, _, rfl, _, rfl, e, _, rfl, SqL.of (kGf _ _ he), fun S2 hS2 => ?_⟩
          have k11 : Same Gf (upd Gf S2 (.lst (cutV xs (some ((1 : Nat) : Int)) none))) := same_new hS2
          have aS2 : upd Gf S2 (.lst (cutV xs (some ((1 : Nat) : Int)) none)) S2 = some (.lst (xs.drop 1)) := upd_same.trans (by rw [cut_from])
          have kGg := kGf.trans k11
          refine ⟨_, rfl, _, rfl, S2, d1, d2, xs.drop 1, E.drop 1, N, kk, R i, R j0, rfl, aS2, EntsAt.drop1 (c.mono fun _ _ z => kGg _ _ z), subT, kGg _ _ hd1b, kGg _ _ hd2b, tab.ok i li, tab.ok j0 lj, fun Gh kh => ?_⟩
          have kGh := kGg.trans kh
          refine ⟨(by show 5 ≤ sizeLine; decide), fun L3 hL3 => ?_⟩
          dsimp only [tNil]
          refine rep_five2 upd_same (Int.zero_sub _) gS gS (sg_neg gS) gT (.inr (.inl rfl)) ?_
          generalize hoL : HO.lst [V.int _, _, _, _, _] = oL
          have k12 : Same Gh (upd Gh L3 oL) := same_new hL3
          have kaj := ((kaf.trans k11).trans kh).trans k12
          generalize upd Gh L3 oL = Gj at kaj ⊢
          refine ⟨rfl, _, rfl, ite2 (fun z => ?_) (fun _ => ?_)⟩
          · simp at z
          · refine ⟨_, rfl, _, rfl, _, rfl, (by show 3 ≤ sizeLine; decide), fun L4 hL4 far4 => ?_⟩
            have k13 : Same Gj (upd Gj L4 (.lst [.ref D1, .ref D3, .ref D2])) := same_new hL4
            have kaz := kaj.trans k13
            dsimp only [tNil]
            refine rep_three (ka := kN N (R i) (R j0)) (kb := kE (E.drop 1) (R i) (R j0)) (kc := []) upd_same far4 (kaz _ _ aD1e) (kaz _ _ aD3e) (kaz _ _ aD2e) s1 s3 s2 ?_
            refine ⟨_, rfl, rfl, _, rfl, ite2 (fun z => ?_) (fun _ => ?_)⟩
            · simp at z
            · exact ⟨_, _, _, _, _, _, _, _, _, rfl, k19.trans kaz⟩
      · rintro σ G3 ⟨y5, y6, y7, y8, y9, y10, y11, y12, y13, rfl, k3⟩
        exact ⟨_, _, _, _, _, _, _, _, _, _, rfl, k3⟩
    · rintro σ G ⟨y4, y5, y6, y7, y8, y9, y10, y11, y12, y13, rfl, k2⟩
      exact q G (k1.trans k2)
end

end K18

set_option Elab.async false
set_option linter.all false
set_option maxRecDepth 100000
set_option maxHeartbeats 8000000
namespace K18
open PySem PySem.Spec L2 PSG PSS PSO
abbrev s__law_right : Stmt := topS 43
theorem sc__law_right : FnScope ["_law_pot_here", "_law_names_here", "_law_kinds", "_law_rows", "_law_turn", "_law_entries_here", "_law_others", "_law_one", "_law_two", "_law_places", "_law_twice", "_law_name", "_law_is_text"] ["_law_pot_here"] (defScope s__law_right) := ⟨rfl, rfl, rfl, by decide +kernel, rfl, by decide +kernel, by decide +kernel⟩

/-- zip(list, list): each turn brings a new tuple -/
theorem w_zip {K : PySem.W.Frag} {a b : Addr} {xs ys : List V} {B : (Hp → Prop) → V → Hp → Prop} {Qd : Hp → Prop} {H0 : Hp} (le : ys.length = xs.length) (Pv : Nat → Hp → Prop) (h0 : Pv 0 H0) (hl : ∀ i H, i ≤ xs.length → Pv i H → SqL K H a xs ∧ SqL K H b ys)
    (hs : ∀ i x y H T, xs[i]? = some x → ys[i]? = some y → Pv i H → H T = none → B (Pv (i + 1)) (.ref T) (upd H T (.tup [x, y]))) (hd : ∀ H, Pv xs.length H → Qd H) :
    ∃ W : Nat → Nat → Hp → Prop, (∃ m, W 0 m H0) ∧ ∀ i m H, W i m H → ((Itz K a b).stop i H ∧ Qd H) ∨ ((Itz K a b).go i H ∧ ∃ Nx : Hp → Prop, (∀ H', Nx H' → ∃ m', m' < m ∧ W (i + 1) m' H') ∧ ∀ x H', (Itz K a b).yld i H x H' → B Nx x H') := by
  refine w_run xs.length Pv h0 (fun i H le2 p => ?_) hd
  obtain ⟨q1, q2⟩ := hl i H le2 p
  by_cases lt : i < xs.length
  · have lt2 : i < ys.length := by omega
    refine .inr ⟨lt, ⟨xs, ys, xs[i], ys[i], q1, q2, List.getElem?_eq_getElem lt, List.getElem?_eq_getElem lt2⟩, fun x H' y => ?_⟩
    obtain ⟨T, u, v, rfl, hT, rfl, y1, y2⟩ := y
    exact hs i u v H T (y1 xs q1) (y2 ys q2) p hT
  · exact .inl ⟨by omega, xs, ys, q1, q2, .inl (by omega)⟩
def look {β : Type} : List Str → List β → Str → Option β
  | n :: N, v :: vs, x => if n = x then some v else look N vs x
  | _, _, _ => none
theorem look_at {β : Type} : ∀ {N : List Str} {vs : List β} {j : Nat} {x : Str} {v : β}, N.Nodup → N[j]? = some x → vs[j]? = some v → look N vs x = some v
  | [], _, _, _, _, _, h, _ => by simp at h
  | _ :: _, [], _, _, _, _, _, h => by simp at h
  | n :: N, w :: vs, 0, x, v, _, h, k => by
    cases h
    cases k
    exact if_pos rfl
  | n :: N, w :: vs, j + 1, x, v, nd, h, k => by
    obtain ⟨n1, n2⟩ := List.nodup_cons.mp nd
    have h' : N[j]? = some x := by simpa using h
    have k' : vs[j]? = some v := by simpa using k
    have ne : n ≠ x := fun z => n1 (by rw [z]; exact List.mem_of_getElem? h')
    show (if n = x then some w else look N vs x) = some v
    rw [if_neg ne]
    exact look_at n2 h' k'
def kkOf (N : List Str) (ks : List Bool) (x : Str) : Bool := (look N ks x).getD false
def toPy : V → PyData
  | .int i => .int i
  | .str s => .str s
  | _ => .none
def rowOf (N : List Str) (vs : List V) : Row := fun x => toPy ((look N vs x).getD .non)
theorem va_of {b : Bool} {v : V} (h : VaOk b v) : vOf (toPy v) = v := by
  unfold VaOk at h
  split at h
  · obtain ⟨s, rfl, _⟩ := h
    rfl
  · obtain ⟨i, rfl⟩ := h
    rfl
theorem vOf_row {N : List Str} {vs : List V} {j : Nat} {x : Str} {v : V} {b : Bool} (nd : N.Nodup) (hx : N[j]? = some x) (hv : vs[j]? = some v) (ok : VaOk b v) : vOf (rowOf N vs x) = v := by
  unfold rowOf
  rw [look_at nd hx hv]
  exact va_of ok
theorem row_ok {N : List Str} {ks : List Bool} {vs : List V} (nd : N.Nodup) (l2 : vs.length = N.length) (al : ∀ (j : Nat) (v : V), vs[j]? = some v → ∃ b, ks[j]? = some b ∧ VaOk b v) : RowOk N (kkOf N ks) (rowOf N vs) := ⟨fun x hx => by
  obtain ⟨j, hj⟩ := List.mem_iff_getElem?.mp hx
  have lj := (List.getElem?_eq_some_iff.mp hj).1
  have hv : vs[j]? = some vs[j] := List.getElem?_eq_getElem (by omega)
  obtain ⟨b, hb, ok⟩ := al j _ hv
  unfold kkOf rowOf
  rw [look_at nd hj hv, look_at nd hj hb]
  unfold VaOk at ok
  show if b = true then _ else _
  split at ok
  · next z =>
    rw [if_pos z]
    obtain ⟨s, e, r⟩ := ok
    exact ⟨s, by rw [Option.getD_some, e]; rfl, r⟩
  · next z =>
    rw [if_neg z]
    obtain ⟨i, e⟩ := ok
    exact ⟨i, by rw [Option.getD_some, e]; rfl⟩⟩
theorem col_small {x : Str} (c : Col x) : ∀ z ∈ x.cps.toList, z < 128 := by
  obtain ⟨ps, ne, le, al, e⟩ := c.parts
  have ab : ∀ z ∈ abc.cps.toList, z < 128 := by decide +kernel
  have one : ∀ p ∈ ps, ∀ z ∈ p.cps.toList, z < 128 := fun p hp z hz => ab z (let_mem.mp (al p hp).2 z hz)
  rw [TL.join_eq] at e
  match ps, ne, le with
  | [p], _, _ =>
    have e2 : p = x := e
    rw [← e2]
    exact one p List.mem_cons_self
  | [p, q], _, _ =>
    have e2 : p ++ "." ++ q = x := e
    rw [← e2]
    intro z hz
    rcases app_mem hz with h | h
    · rcases app_mem h with h | h
      · exact one p List.mem_cons_self z h
      · have e3 : z = 46 := by
          have : ("." : Str).cps.toList = [46] := by decide +kernel
          rw [this] at h
          exact List.mem_singleton.mp h
        rw [e3]
        decide
    · exact one q (List.mem_cons_of_mem _ List.mem_cons_self) z h
theorem col_strOk {x : Str} (c : Col x) : PyData.strOk x = true := by
  unfold PyData.strOk
  rw [Array.all_eq_true_iff_forall_mem]
  intro z hz
  have := col_small c z (by simpa using hz)
  exact decide_eq_true (by omega)
def numD (L : List Nat) : PyData := .list (L.map fun (i : Nat) => PyData.int (i : Int))
theorem dp_nums {K : PySem.W.Frag} {H : Hp} {p : Addr} {L : List Nat} (h : H p = some (.lst (nums L))) : Dp K H (.ref p) (numD L) := by
  have all : ∀ L : List Nat, DpAll K H (nums L) (L.map fun (i : Nat) => PyData.int (i : Int)) := fun L => by
    induction L with
    | nil => exact .nil
    | cons i r ih => exact .cons (.int _) ih
  exact .lst (SqL.of h) (all L)
theorem sh_nums (L : List Nat) : SeqAt.shaped (numD L) = true := by
  have a : ∀ L : List Nat, PyData.canLayAll0 (L.map fun (i : Nat) => PyData.int (i : Int)) = true ∧ PyData.depthAll (L.map fun (i : Nat) => PyData.int (i : Int)) ≤ 2 := fun L => by
    induction L with
    | nil => exact ⟨rfl, by decide⟩
    | cons i r ih =>
      refine ⟨by simp [PyData.canLayAll0, PyData.canLay0, ih.1], ?_⟩
      have := ih.2
      simp only [List.map_cons, PyData.depthAll, PyData.depth]
      omega
  obtain ⟨h1, h2⟩ := a L
  unfold SeqAt.shaped numD
  refine Bool.and_eq_true_iff.mpr ⟨by simpa [PyData.canLay0] using h1, decide_eq_true ?_⟩
  simp only [PyData.depth]
  omega
def entD (e : Ent) : PyData := .tuple [.str e.1, .str (wy e.2)]
theorem dp_ents {K : PySem.W.Frag} {H : Hp} : ∀ {xs : List V} {E : List Ent}, EntsAt H xs E → DpAll K H xs (E.map entD)
  | [], [], _ => .nil
  | _ :: _, _ :: _, ⟨⟨a, e, h⟩, r⟩ => .cons (by rw [e]; exact .tup (SqT.of h) (.cons (.str _) (.cons (.str _) .nil))) (dp_ents r)
theorem sh_ents {E : List Ent} (h : ∀ e ∈ E, Col e.1) : SeqAt.shaped (.tuple (E.map entD)) = true := by
  have w1 : PyData.strOk (wy true) = true := by decide +kernel
  have w2 : PyData.strOk (wy false) = true := by decide +kernel
  have a : ∀ E : List Ent, (∀ e ∈ E, Col e.1) → PyData.canLayAll0 (E.map entD) = true ∧ PyData.depthAll (E.map entD) ≤ 4 := fun E => by
    induction E with
    | nil => exact fun _ => ⟨rfl, by decide⟩
    | cons e r ih =>
      intro h
      obtain ⟨i1, i2⟩ := ih fun z hz => h z (List.mem_cons_of_mem _ hz)
      have c := col_strOk (h e List.mem_cons_self)
      have cw : PyData.strOk (wy e.2) = true := by cases e.2 <;> assumption
      refine ⟨by simp [PyData.canLayAll0, PyData.canLay0, entD, c, cw, i1], ?_⟩
      simp only [List.map_cons, PyData.depthAll, PyData.depth, entD]
      omega
  obtain ⟨h1, h2⟩ := a E h
  unfold SeqAt.shaped
  refine Bool.and_eq_true_iff.mpr ⟨by simpa [PyData.canLay0] using h1, decide_eq_true ?_⟩
  simp only [PyData.depth]
  omega
theorem eok_of {N : List Str} {E : List Ent} (n : Names N) (h : Ents N E) : EOk E := ⟨fun e he => n.col _ (h.sub e he), h.nd, by have := h.hi; omega⟩
theorem eok_then {N : List Str} {E E2 : List Ent} (n : Names N) (h : Ents N E) (k : Ents N E2) : EOk (thenE E E2) := by
  have sub : (addE E E2).Sublist E2 := List.filter_sublist
  refine ⟨fun e he => ?_, ?_, ?_⟩
  · unfold thenE at he
    rcases List.mem_append.mp he with he | he
    · exact n.col _ (h.sub e he)
    · exact n.col _ (k.sub e (sub.subset he))
  · unfold thenE
    rw [List.map_append]
    refine List.nodup_append.mpr ⟨h.nd, (sub.map _).nodup k.nd, fun a ha b hb e => ?_⟩
    obtain ⟨z, hz, rfl⟩ := List.mem_map.mp hb
    unfold addE at hz
    have q := (List.mem_filter.mp hz).2
    rw [e] at ha
    simp [ha] at q
  · unfold thenE
    rw [List.length_append]
    have l1 := sub.length_le
    have l2 := h.hi
    have l3 := k.hi
    omega
theorem tab_then {N : List Str} {kk : Str → Bool} {R : Nat → Row} {n : Nat} {E E2 : List Ent} (t : Tab N kk R n E) (t2 : Tab N kk R n E2) : Tab N kk R n (thenE E E2) := ⟨t.ok, fun e he => by
  unfold thenE at he
  rcases List.mem_append.mp he with he | he
  · exact t.sub e he
  · exact t2.sub e ((List.filter_sublist : (addE E E2).Sublist E2).subset he)⟩
theorem eqv_nums (L : List Nat) : PyData.eqv (numD L) (numD L) = true := PySem.SeqAt.eqv_refl _ (PySem.SeqAt.canLay_of_shaped (sh_nums L))
theorem eqv_ents {E : List Ent} (h : ∀ e ∈ E, Col e.1) : PyData.eqv (.tuple (E.map entD)) (.tuple (E.map entD)) = true := PySem.SeqAt.eqv_refl _ (PySem.SeqAt.canLay_of_shaped (sh_ents h))
section
variable {P : Program} {w : World} {K : PySem.W.Frag} {mg : Str → Option Value} {base : Heap}
def spRight : Sp := fun vs H Q _ => ∃ r : Addr, vs = [.ref r] ∧ Pt H r ∧ ∀ H', Pt H' r → But r H H' → Q (.bl true) H'
theorem ok_right {C f fD fN fV fO fI fP fIn fS fT pE fE : Addr} {fd dD dN dV dO dI dP dIn dS dT dE : FuncData} (F : Fun K "_law_right" "_law_right" s__law_right f fd) (T : Blt mg) (O : OrdC K mg C)
    (F__law_draw : Fun K "_law_draw" "_law_draw" s__law_draw fD dD) (b__law_draw : Binds K dD ["_law_pot_here", "_law_many"] []) (g__law_draw : mg "_law_draw" = some (.ref fD))
    (F__law_names : Fun K "_law_names" "_law_names" s__law_names fN dN) (b__law_names : Binds K dN ["_law_pot_here"] []) (g__law_names : mg "_law_names" = some (.ref fN)) (G__law_names : FnOk P w K mg base CX0 4 fN dN ["_law_pot_here"] spNames)
    (F__law_value : Fun K "_law_value" "_law_value" s__law_value fV dV) (b__law_value : Binds K dV ["_law_pot_here", "_law_is_text"] []) (g__law_value : mg "_law_value" = some (.ref fV)) (G__law_value : FnOk P w K mg base CX0 2 fV dV ["_law_pot_here", "_law_is_text"] spValue)
    (F__law_over : Fun K "_law_over" "_law_over" s__law_over fO dO) (b__law_over : Binds K dO ["_law_pot_here", "_law_names_here"] []) (g__law_over : mg "_law_over" = some (.ref fO)) (G__law_over : FnOk P w K mg base CX0 2 fO dO ["_law_pot_here", "_law_names_here"] spOver)
    (M_Order : Mk K C fI) (b_Order___init__ : Binds K dI ["self", "entries"] []) (G_Order___init__ : FnOk P w K mg base CX0 5 fI dI ["self", "entries"] (spOInit C))
    (F__law_pairs_right : Fun K "_law_pairs_right" "_law_pairs_right" s__law_pairs_right fP dP) (b__law_pairs_right : Binds K dP ["_law_order", "_law_entries_here", "_law_rows"] []) (g__law_pairs_right : mg "_law_pairs_right" = some (.ref fP)) (G__law_pairs_right : FnG P w K mg base CX0 8 fP dP ["_law_order", "_law_entries_here", "_law_rows"] (spPairs C))
    (F__law_inserted : Fun K "_law_inserted" "_law_inserted" s__law_inserted fIn dIn) (b__law_inserted : Binds K dIn ["_law_order", "_law_rows", "_law_places"] []) (g__law_inserted : mg "_law_inserted" = some (.ref fIn)) (G__law_inserted : FnOk P w K mg base CX0 5 fIn dIn ["_law_order", "_law_rows", "_law_places"] (spIns C))
    (F__law_sorted : Fun K "_law_sorted" "_law_sorted" s__law_sorted fS dS) (b__law_sorted : Binds K dS ["_law_entries_here", "_law_rows"] []) (g__law_sorted : mg "_law_sorted" = some (.ref fS))
    (M_then : Meth K C "then" fT) (b_then : Binds K dT ["self", "other"] []) (G_then : FnOk P w K mg base CX0 8 fT dT ["self", "other"] (spThen C))
    (PO_entries : PropOf K C "entries" pE fE) (G_entries : FnOk P w K mg base CX0 1 fE dE ["self"] (getSp C "_entries")) (b_entries : Binds K dE ["self"] []) :
    FnG P w K mg base CX0 9 f fd ["_law_pot_here"] spRight := by
  have sc := sc__law_right
  have G__law_draw : FnOk P w K mg base CX0 1 fD dD ["_law_pot_here", "_law_many"] spDraw := ok_draw F__law_draw T
  have G__law_sorted : FnOk P w K mg base CX0 1 fS dS ["_law_entries_here", "_law_rows"] spSorted := ok_sorted F__law_sorted T
  refine okG F sc (fun vs H Q E h => ?_) (fun cdv B up s H vs Q E hr gd h => ?_)
  · obtain ⟨r, rfl, _⟩ := h
    rfl
  · obtain ⟨r, rfl, g0, q⟩ := h
    refine ⟨_, (pss_cons (ps_set (i := 1) sc.nd rfl (.inl rfl) (pe_call G__law_names (hr.mono (by decide)) (by rfl) g__law_names F__law_names.kp b__law_names .nil pass0 (pa_cons (pv 0) pa_nil)))
      (pss_cons (ps_setLc (i := 2) (own := [("_law_name", 11)]) (g := gName 11) (tt := tYes) (by rfl) sc.nd rfl rfl (sw_true rfl rfl rfl (by decide +kernel)) (pi_list (pv 1)) (blkOk_by (own := [("_law_name", 11)]) (N := ["_law_pot_here", "_law_names_here", "_law_kinds", "_law_rows", "_law_turn", "_law_entries_here", "_law_others", "_law_one", "_law_two", "_law_places", "_law_twice", "_law_name", "_law_is_text"]) (sc := defScope s__law_right) (by decide +kernel)) (fun _ _ _ _ _ => pg_name (i := 11) sc.nd rfl (Or.inl rfl)) (fun _ _ _ _ _ => pts_nil) (fun _ _ _ _ _ => (pe_cmpR op_eq (pe_call G__law_draw (hr.mono (by decide)) (by rfl) g__law_draw F__law_draw.kp b__law_draw .nil pass0 (pa_cons (pv 0) (pa_cons pe_int pa_nil))) pe_int (nomark _))))
      (pss_cons (ps_set (i := 3) sc.nd rfl (.inl rfl) (pe_lst pa_nil))
      (pss_cons (ps_for PassesOwn.never (by rfl) (pi_range1 (by rfl) T.n_range (pa_cons (pe_call G__law_draw (hr.mono (by decide)) (by rfl) g__law_draw F__law_draw.kp b__law_draw .nil pass0 (pa_cons (pv 0) (pa_cons pe_int pa_nil))) pa_nil)) (pg_name (i := 4) sc.nd rfl (.inl rfl)) (pss_one (ps_expr (pe_bm PySem.F.plainAttrs_list PySem.F.slot_list_append PySem.F.type_list_append mt_append (pv 3) (pa_cons (pe_callTy (call_dictP rfl) (by rfl) T.n_dict (by decide +kernel) (pa_cons (pe_lc (own := [("_law_name", 11), ("_law_is_text", 12)]) (g := gTup K 2 _) (tt := tYes) (by rfl) sc.nd (pi_zip (by rfl) T.n_zip (pa_cons (pv 1) (pa_cons (pv 2) pa_nil))) (blkOk_by (own := [("_law_name", 11), ("_law_is_text", 12)]) (N := ["_law_pot_here", "_law_names_here", "_law_kinds", "_law_rows", "_law_turn", "_law_entries_here", "_law_others", "_law_one", "_law_two", "_law_places", "_law_twice", "_law_name", "_law_is_text"]) (sc := defScope s__law_right) (by decide +kernel)) (fun _ _ _ _ _ => pg_tup (by rfl) (pgs_cons (pg_name (i := 11) sc.nd rfl (Or.inl rfl)) (pgs_cons (pg_name (i := 12) sc.nd rfl (Or.inl rfl)) pgs_nil))) (fun _ _ _ _ _ => pts_nil) (fun _ _ _ _ _ => (pe_tup (pa_cons (pv 11) (pa_cons (pe_call G__law_value (hr.mono (by decide)) (by rfl) g__law_value F__law_value.kp b__law_value .nil pass0 (pa_cons (pv 0) (pa_cons (pv 12) pa_nil))) pa_nil))))) pa_nil)) pa_nil)))))
      (pss_cons (ps_par (i := 5) (j := 6) (by rfl) sc.nd rfl rfl (by decide) rfl rfl (pa_cons (pe_call G__law_over (hr.mono (by decide)) (by rfl) g__law_over F__law_over.kp b__law_over .nil pass0 (pa_cons (pv 0) (pa_cons (pv 1) pa_nil))) (pa_cons (pe_call G__law_over (hr.mono (by decide)) (by rfl) g__law_over F__law_over.kp b__law_over .nil pass0 (pa_cons (pv 0) (pa_cons (pv 1) pa_nil))) pa_nil)) (by rfl))
      (pss_cons (ps_par (i := 7) (j := 8) (by rfl) sc.nd rfl rfl (by decide) rfl rfl (pa_cons (pe_make M_Order G_Order___init__ (hr.mono (by decide)) (by rfl) O.glob b_Order___init__ .nil pass0 (pa_cons (pv 5) pa_nil)) (pa_cons (pe_make M_Order G_Order___init__ (hr.mono (by decide)) (by rfl) O.glob b_Order___init__ .nil pass0 (pa_cons (pe_callTy call_tuple_of (by rfl) T.n_tuple (by decide +kernel) (pa_cons (pv 6) pa_nil)) pa_nil)) pa_nil)) (by rfl))
      (pss_cons (ps_if (pt_not (pt_val (pe_callG G__law_pairs_right (hr.mono (by decide)) gd (by rfl) g__law_pairs_right F__law_pairs_right.kp b__law_pairs_right .nil pass0 (pa_cons (pv 7) (pa_cons (pv 5) (pa_cons (pv 3) pa_nil)))))) (pss_one (ps_ret pe_bl)) pss_nil)
      (pss_cons (ps_set (i := 9) sc.nd rfl (.inl rfl) (pe_listRg (by rfl) (by rfl) T.n_list (prg_1 (by rfl) T.n_range (pe_callB call_len_seq (by rfl) T.n_len PySem.boot_len (pa_cons (pv 3) pa_nil)))))
      (pss_cons (ps_if (pt_cmpR (op_neD hr.units) (pe_call G__law_inserted (hr.mono (by decide)) (by rfl) g__law_inserted F__law_inserted.kp b__law_inserted .nil pass0 (pa_cons (pv 7) (pa_cons (pv 3) (pa_cons (pv 9) pa_nil)))) (pe_call G__law_sorted (hr.mono (by decide)) (by rfl) g__law_sorted F__law_sorted.kp b__law_sorted .nil pass0 (pa_cons (pv 5) (pa_cons (pv 3) pa_nil))) (nomark _)) (pss_one (ps_ret pe_bl)) pss_nil)
      (pss_cons (ps_set (i := 10) sc.nd rfl (.inl rfl) (pe_call G__law_inserted (hr.mono (by decide)) (by rfl) g__law_inserted F__law_inserted.kp b__law_inserted .nil pass0 (pa_cons (pv 7) (pa_cons (pv 3) (pa_cons (pe_call G__law_inserted (hr.mono (by decide)) (by rfl) g__law_inserted F__law_inserted.kp b__law_inserted .nil pass0 (pa_cons (pv 8) (pa_cons (pv 3) (pa_cons (pv 9) pa_nil)))) pa_nil)))))
      (pss_one (ps_ret (pe_and (pe_cmpR (op_eqD hr.units) (pv 10) (pe_call G__law_inserted (hr.mono (by decide)) (by rfl) g__law_inserted F__law_inserted.kp b__law_inserted .nil pass0 (pa_cons (pe_meth (pv 7) O.cl M_then G_then (hr.mono (by decide)) b_then .nil pass0 (pa_cons (pv 8) pa_nil)) (pa_cons (pv 3) (pa_cons (pv 9) pa_nil)))) (nomark _)) (pe_one (pe_cmpR (op_eqD hr.units) (pe_prop (pv 7) O.cl PO_entries G_entries (hr.mono (by decide)) b_entries .nil pass0 rfl) (pe_callTy call_tuple_of (by rfl) T.n_tuple (by decide +kernel) (pa_cons (pv 5) pa_nil)) (nomark _)))))))))))))))), ?_⟩
    refine ⟨_, rfl, r, rfl, g0, fun pN N H1 nms hpN aN g1 b1 => ?_⟩
    have nN : pN ≠ r := g0.off hpN
    have lN : (N.map V.str).length = N.length := List.length_map _
    refine ⟨_, rfl, pN, rfl, ⟨_, SqL.of aN⟩, fun D hD => w_list (xs := N.map V.str) (fun i G => Pt G r ∧ But r H1 G ∧ ∃ ks : List Bool, G D = some (.lst (ks.map V.bl)) ∧ ks.length = i) ⟨g1.new hD, But.of (same_new hD), [], upd_same, rfl⟩ (fun i G _ z => SqL.of (z.2.1 _ _ nN aN)) ?_ ?_⟩
    · rintro i x G hx ⟨gG, bG, ks, aD, lk⟩
      have li : i < N.length := by
        have := (List.getElem?_eq_some_iff.mp hx).1
        omega
      have h6 := nms.hi
      refine ⟨rfl, _, rfl, r, 3, rfl, gG, by decide, by decide, fun d G2 d0 d1 g2 b2 => ?_⟩
      have aD2 := b2 _ _ (g1.off hD) aD
      refine ⟨rfl, _, aD2, by rw [List.length_map, sizeLine_eq]; omega, g2.put (g1.off hD), fun b o n e => (upd_ne (ne_of_none e hD)).trans (b2 _ _ n (bG b o n e)), ks ++ [decide (V.int d = V.int 0)], ?_, by rw [List.length_append, lk]; rfl⟩
      rw [upd_same, List.map_append]
      rfl
    · rintro H2 ⟨g2, b2, ks, aD, lk⟩
      have lk2 : ks.length = N.length := by rw [lk, lN]
      have nD : D ≠ r := g1.off hD
      have aN2 := b2 _ _ nN aN
      refine ⟨Nat.zero_le _, fun DR hDR => ?_⟩
      have nDR : DR ≠ r := g2.off hDR
      refine ⟨_, rfl, r, _, rfl, g2.new hDR, by decide, by decide, fun n H3 n0 n1 g3 b3 => ⟨_, rfl, by omega, by omega, ?_⟩⟩
      have kp3 : ∀ b o, b ≠ r → H2 b = some o → H3 b = some o := fun b o n e => b3 b o n ((upd_ne (ne_of_none e hDR)).trans e)
      have aDR3 := b3 _ _ nDR upd_same
      refine for_range (lo := 0) (n := n.toNat) (fun i σ G => ∃ y4 y11 y12, σ = [some (.ref r), some (.ref pN), some (.ref D), some (.ref DR), y4, none, none, none, none, none, none, y11, y12] ∧ Pt G r ∧ (∀ b o, b ≠ r → H2 b = some o → G b = some o) ∧ ∃ (rs : List Addr) (Rw : Nat → Row), G DR = some (.lst (rs.map V.ref)) ∧ rs.length = i ∧ ∀ j d, rs[j]? = some d → G d = some (.dK (rowKV N (Rw j))) ∧ RowOk N (kkOf N ks) (Rw j))
        ⟨_, _, _, rfl, g3, kp3, [], fun _ _ => .none, aDR3, rfl, fun (j : Nat) (d : Addr) (e : ([] : List Addr)[j]? = some d) => absurd e (by simp)⟩ ?_ ?_
      · rintro i σ G hi ⟨y4, y11, y12, rfl, gG, kG, rs, Rw, aDR, lr, al⟩
        refine ⟨_, rfl, .inl ⟨rfl, _, SqL.of aDR⟩, _, rfl, _, rfl, pN, D, N.map V.str, ks.map V.bl, rfl, SqL.of (kG _ _ nN aN2), SqL.of (kG _ _ nD aD), fun D3 hD3 => ?_⟩
        have nD3 : D3 ≠ r := gG.off hD3
        have lks : (ks.map V.bl).length = (N.map V.str).length := by rw [List.length_map, List.length_map, lk2]
        have h6 := nms.hi
        refine w_zip lks (fun m G' => Pt G' r ∧ (∀ b o, b ≠ r → G b = some o → G' b = some o) ∧ ∃ (ps : List Addr) (vs : List V), G' D3 = some (.lst (ps.map V.ref)) ∧ ps.length = m ∧ vs.length = m ∧ (∀ (j : Nat) p, ps[j]? = some p → ∃ x v, N[j]? = some x ∧ vs[j]? = some v ∧ G' p = some (.tup [.str x, v])) ∧ ∀ (j : Nat) v, vs[j]? = some v → ∃ b, ks[j]? = some b ∧ VaOk b v)
          ⟨gG.new hD3, fun b o n e => (upd_ne (ne_of_none e hD3)).trans e, [], [], upd_same, rfl, rfl, fun (j : Nat) (d : Addr) (e : ([] : List Addr)[j]? = some d) => absurd e (by simp), fun (j : Nat) (d : V) (e : ([] : List V)[j]? = some d) => absurd e (by simp)⟩
          (fun m G' _ z => ⟨SqL.of (z.2.1 _ _ nN (kG _ _ nN aN2)), SqL.of (z.2.1 _ _ nD (kG _ _ nD aD))⟩) ?_ ?_
        · rintro m x y G' T hx hy ⟨gG', kG', ps, vs, aD3, lp, lv, ap, av⟩ hT
          obtain ⟨nx, hnx, rfl⟩ : ∃ nx, N[m]? = some nx ∧ x = .str nx := by
            rw [List.getElem?_map] at hx
            cases h2 : N[m]? with
            | none => rw [h2] at hx; cases hx
            | some z => rw [h2] at hx; exact ⟨z, rfl, (Option.some.inj hx).symm⟩
          obtain ⟨kb, hkb, rfl⟩ : ∃ kb, ks[m]? = some kb ∧ y = .bl kb := by
            rw [List.getElem?_map] at hy
            cases h2 : ks[m]? with
            | none => rw [h2] at hy; cases hy
            | some z => rw [h2] at hy; exact ⟨z, rfl, (Option.some.inj hy).symm⟩
          have lm : m < N.length := (List.getElem?_eq_some_iff.mp hnx).1
          refine ⟨T, _, rfl, SqT.of upd_same, rfl, _, _, rfl, _, _, rfl, rfl, rfl, _, rfl, _, rfl, _, rfl, r, kb, rfl, gG'.new hT, fun v G3 va g3 b3 => ⟨(by show 2 ≤ sizeLine; decide), fun t ht => ?_⟩⟩
          have kp : ∀ b o, b ≠ r → G' b = some o → G3 b = some o := fun b o n e => b3 b o n ((upd_ne (ne_of_none e hT)).trans e)
          have aD4 := kp _ _ nD3 aD3
          have ntD : D3 ≠ t := ne_of_none aD4 ht
          refine ⟨_, (upd_ne ntD).trans aD4, by rw [List.length_map, sizeLine_eq]; omega, (g3.new ht).put nD3, fun b o n e => (upd_ne (ne_of_none e hD3)).trans ((upd_ne (ne_of_none (kp _ _ n (kG' _ _ n e)) ht)).trans (kp _ _ n (kG' _ _ n e))), ps ++ [t], vs ++ [v], ?_, by rw [List.length_append, lp]; rfl, by rw [List.length_append, lv]; rfl, fun j p hj => ?_, fun j u hj => ?_⟩
          · rw [upd_same, List.map_append]
            rfl
          · by_cases lj : j < ps.length
            · rw [List.getElem?_append_left lj] at hj
              obtain ⟨x, v', h1, h2, h3⟩ := ap j p hj
              have h4 := but_tup (gG'.new hT) b3 _ _ ((upd_ne (ne_of_none h3 hT)).trans h3)
              have npD : p ≠ D3 := fun z => by
                rw [z, aD4] at h4
                cases h4
              exact ⟨x, v', h1, by rw [List.getElem?_append_left (by omega)]; exact h2, (upd_ne npD).trans ((upd_ne (ne_of_none h4 ht)).trans h4)⟩
            · rw [List.getElem?_append_right (Nat.le_of_not_lt lj)] at hj
              have j0 : j - ps.length = 0 := Nat.lt_one_iff.mp (List.getElem?_eq_some_iff.mp hj).1
              rw [j0] at hj
              obtain rfl : t = p := Option.some.inj hj
              have ej : j = m := (Nat.le_antisymm (Nat.sub_eq_zero_iff_le.mp j0) (Nat.le_of_not_lt lj)).trans lp
              rw [ej]
              exact ⟨nx, v, hnx, by rw [← lv, List.getElem?_append_right (Nat.le_refl _), Nat.sub_self]; rfl, (upd_ne ntD.symm).trans upd_same⟩
          · by_cases lj : j < vs.length
            · rw [List.getElem?_append_left lj] at hj
              exact av j u hj
            · rw [List.getElem?_append_right (Nat.le_of_not_lt lj)] at hj
              have j0 : j - vs.length = 0 := Nat.lt_one_iff.mp (List.getElem?_eq_some_iff.mp hj).1
              rw [j0] at hj
              obtain rfl : v = u := Option.some.inj hj
              have ej : j = m := (Nat.le_antisymm (Nat.sub_eq_zero_iff_le.mp j0) (Nat.le_of_not_lt lj)).trans lv
              rw [ej]
              exact ⟨kb, hkb, va⟩
        · rintro G' ⟨gG', kG', ps, vs, aD3, lp, lv, ap, av⟩
          rw [lN] at lp lv
          have prs : Paired (fun p kv => SqT K G' p [kV kv.1, kv.2]) ps (rowKV N (rowOf N vs)) := by
            refine paired_at (by unfold rowKV; rw [List.length_map, lp]) fun j p kv hp hkv => ?_
            obtain ⟨x, v, h1, h2, h3⟩ := ap j p hp
            unfold rowKV at hkv
            rw [List.getElem?_map, h1] at hkv
            obtain rfl := Option.some.inj hkv
            obtain ⟨b', _, ok⟩ := av j v h2
            have e : vOf (rowOf N vs x) = v := vOf_row nms.nd h1 h2 ok
            show SqT K G' p [V.str x, vOf (rowOf N vs x)]
            rw [e]
            exact SqT.of h3
          refine ⟨D3, ps, rowKV N (rowOf N vs), rfl, SqL.of aD3, prs, fun p hp => ?_⟩
          have mg : mergeK [] (rowKV N (rowOf N vs)) = rowKV N (rowOf N vs) := by
            have := merge_new (more := rowKV N (rowOf N vs)) (acc := []) (by
              rw [List.nil_append]
              unfold rowKV
              rw [List.map_map]
              exact List.Pairwise.map _ (fun x y n z => n (Sum.inr.inj z)) nms.nd)
            rwa [List.nil_append] at this
          rw [mg]
          have aDR2 := kG' _ _ nDR aDR
          have npDR : DR ≠ p := ne_of_none aDR2 hp
          refine ⟨DR, _, _, rfl, rfl, (upd_ne npDR).trans aDR2, by rw [List.length_map, sizeLine_eq]; omega, ?_⟩
          refine ⟨_, _, _, rfl, (gG'.new hp).put nDR, fun b o n e => (upd_ne (ne_of_none e hDR)).trans ((upd_ne (ne_of_none (kG' _ _ n (kG _ _ n e)) hp)).trans (kG' _ _ n (kG _ _ n e))), rs ++ [p], fun j => if j = i then rowOf N vs else Rw j, ?_, by rw [List.length_append, lr]; rfl, fun j d hj => ?_⟩
          · rw [upd_same, List.map_append]
            rfl
          · by_cases lj : j < rs.length
            · rw [List.getElem?_append_left lj] at hj
              obtain ⟨h1, h2⟩ := al j d hj
              have ndr : d ≠ r := fun z => by
                obtain ⟨u, v, e, _⟩ := gG
                rw [z, e] at h1
                cases h1
              have h3 := kG' _ _ ndr h1
              have nd : d ≠ DR := fun z => by
                rw [z, aDR2] at h3
                cases h3
              have ji : ¬ j = i := by omega
              dsimp only
              rw [if_neg ji]
              exact ⟨(upd_ne nd).trans ((upd_ne (ne_of_none h3 hp)).trans h3), h2⟩
            · rw [List.getElem?_append_right (Nat.le_of_not_lt lj)] at hj
              have j0 : j - rs.length = 0 := Nat.lt_one_iff.mp (List.getElem?_eq_some_iff.mp hj).1
              rw [j0] at hj
              obtain rfl : p = d := Option.some.inj hj
              have ej : j = i := (Nat.le_antisymm (Nat.sub_eq_zero_iff_le.mp j0) (Nat.le_of_not_lt lj)).trans lr
              dsimp only
              rw [if_pos ej]
              exact ⟨(upd_ne npDR.symm).trans upd_same, row_ok nms.nd lv av⟩
      · rintro σ G ⟨y4, y11, y12, rfl, gG, kG, rs, Rw, aDR, lr, al⟩
        have rowsG : RowsAt G DR N Rw n.toNat := ⟨_, aDR, by rw [List.length_map, lr], fun i hi => by
          have hd : rs[i]? = some rs[i] := List.getElem?_eq_getElem (by omega)
          exact ⟨rs[i], by rw [List.getElem?_map, hd]; rfl, (al i _ hd).1⟩⟩
        have okG : ∀ i, i < n.toNat → RowOk N (kkOf N ks) (Rw i) := fun i hi => (al i _ (List.getElem?_eq_getElem (by omega))).2
        have nn : n.toNat ≤ 9 := by omega
        have aNG := kG _ _ nN aN2
        refine ⟨_, rfl, _, rfl, r, pN, N, rfl, gG, aNG, nms, nN, fun p1 xs1 E1 H4 en1 hp1 a1 c1 g4 b4 => ?_⟩
        have n1 : p1 ≠ r := gG.off hp1
        refine ⟨_, rfl, _, rfl, r, pN, N, rfl, g4, b4 _ _ nN aNG, nms, nN, fun p2 xs2 E2 H5 en2 hp2 a2 c2 g5 b5 => ?_⟩
        have bG5 : But r G H5 := b4.trans b5
        have a1' := b5 _ _ n1 a1
        have c1' := c1.mono (but_tup g4 b5)
        have rows5 : RowsAt H5 DR N Rw n.toNat := by
          obtain ⟨rs', e1, e2, e3⟩ := rowsG
          refine ⟨rs', bG5 _ _ nDR e1, e2, fun i hi => ?_⟩
          obtain ⟨d, h1, h2⟩ := e3 i hi
          have ndr : d ≠ r := fun z => by
            obtain ⟨u, v, e, _⟩ := gG
            rw [z, e] at h2
            cases h2
          exact ⟨d, h1, bG5 _ _ ndr h2⟩
        have bH5 : But r H H5 := fun b o nb e => bG5 _ _ nb (kG _ _ nb (b2 _ _ nb (b1 _ _ nb e)))
        have tab1 : Tab N (kkOf N ks) Rw n.toNat E1 := ⟨okG, en1.sub⟩
        have tab2 : Tab N (kkOf N ks) Rw n.toNat E2 := ⟨okG, en2.sub⟩
        clear rowsG al kG b4 b5 a1 c1 aDR
        refine ⟨_, _, rfl, _, rfl, fun x1 dx1 nx1 nd1 ne1 => ⟨x1, dx1, .ref p1, E1, rfl, upd_same, .inl ((SeqE.mk (.inl a1') c1').same (same_make (C := C) nx1 nd1)), eok_of nms en1, fun H6 hO1 keep1 => ⟨rfl, ?_⟩⟩⟩
        have s6 : Same H5 H6 := fun b o e => keep1 b o (ne_of_none e nx1) (same_make (C := C) nx1 nd1 _ _ e)
        clear keep1
        refine ⟨_, rfl, p2, _, rfl, .inl ⟨SqL.of (s6 _ _ a2), fun t2 ht2 => ?_⟩⟩
        have s7 : Same H6 (upd H6 t2 (.tup xs2)) := same_new ht2
        have at2 : upd H6 t2 (.tup xs2) t2 = some (.tup xs2) := upd_same
        generalize upd H6 t2 (.tup xs2) = H7 at s7 at2 ⊢
        have s57 := s6.trans s7
        have c2' := c2.mono (H' := H7) fun _ _ z => s57 _ _ z
        refine fun x2 dx2 nx2 nd2 ne2 => ⟨x2, dx2, .ref t2, E2, rfl, upd_same, .inl ((SeqE.mk (.inr at2) c2').same (same_make (C := C) nx2 nd2)), eok_of nms en2, fun H8 hO2 keep2 => ⟨rfl, ?_⟩⟩
        have s8 : Same H7 H8 := fun b o e => keep2 b o (ne_of_none e nx2) (same_make (C := C) nx2 nd2 _ _ e)
        clear keep2
        have s58 := s57.trans s8
        have hO1' := hO1.same (s7.trans s8)
        have p1' := s58 _ _ a1'
        have c18 := c1'.mono (H' := H8) fun _ _ z => s58 _ _ z
        have rows8 := rows5.same s58
        refine ⟨_, _, rfl, _, rfl, _, rfl, _, rfl, x1, p1, DR, xs1, N, kkOf N ks, Rw, n.toNat, E1, rfl, hO1', p1', c18, eok_of nms en1, rows8, nms, tab1, en1.hi, fun H9 s9 => ?_⟩
        have rows9 := rows8.same s9
        obtain ⟨rr, hr1, hr2, hr3⟩ := id rows9
        refine ⟨_, rfl, ite2 (fun e => ?_) (fun _ => ?_)⟩
        · cases e
        have len : (rr.length : Int) = (n.toNat : Int) := by rw [hr2]
        refine ⟨_, rfl, DR, _, rfl, .inl (SqL.of hr1), _, rfl, RgOk.of_le (by decide) (by omega) (by decide) (by omega), fun p9 hp9 => ?_⟩
        have rg : rgV 0 (rr.length : Int) = nums (List.range n.toNat) := by
          rw [hr2]
          unfold rgV nums
          rw [show (((n.toNat : Nat) : Int) - 0).toNat = n.toNat from by omega]
          exact List.map_congr_left fun i _ => by rw [Int.zero_add]
        have s10 : Same H9 (upd H9 p9 (.lst (rgV 0 (rr.length : Int)))) := same_new hp9
        have ap9 : upd H9 p9 (.lst (rgV 0 (rr.length : Int))) p9 = some (.lst (nums (List.range n.toNat))) := upd_same.trans (by rw [rg])
        generalize upd H9 p9 (.lst (rgV 0 (rr.length : Int))) = H10 at s10 ap9 ⊢
        have s810 := s9.trans s10
        have inR : ∀ i ∈ List.range n.toNat, i < n.toNat := fun i hi => List.mem_range.mp hi
        have lR : (List.range n.toNat).length ≤ 9 := by rw [List.length_range]; exact nn
        have lt3 : ∀ a b c : Nat, a < b → b < c → a < c := fun a b c => Nat.lt_trans
        have as2 : ∀ a b : Nat, a < b → ¬ b < a := fun a b h k => absurd h (by omega)
        refine ⟨_, rfl, _, rfl, _, rfl, x1, DR, p9, N, kkOf N ks, Rw, n.toNat, E1, List.range n.toNat, fun a b => a < b, rfl, hO1'.same s810, rows8.same s810, nn, nms.nd, nms.hi, tab1, ap9, inR, lR, List.pairwise_lt_range, lt3, fun m1 M1 H11 s11 pm1 pw1 am1 => ?_⟩
        have s811 := s810.trans s11
        refine ⟨_, rfl, _, rfl, p1, DR, xs1, N, kkOf N ks, Rw, n.toNat, E1, rfl, s811 _ _ p1', c18.mono (fun _ _ z => s811 _ _ z), rows8.same s811, nn, tab1, en1.hi, fun m2 M2 H12 s12 pm2 pw2 am2 => ?_⟩
        have eM : M1 = M2 := pw_one (te_as tab1 as2) (pm1.trans pm2.symm) pw1 pw2
        subst eM
        have s812 := s811.trans s12
        refine ⟨numD M1, numD M1, dp_nums (s12 _ _ am1), dp_nums am2, sh_nums M1, sh_nums M1, _, rfl, ite2 (fun e => ?_) (fun _ => ?_)⟩
        · rw [eqv_nums] at e
          cases e
        have ap12 := (s11.trans s12) _ _ ap9
        refine ⟨_, rfl, _, rfl, _, rfl, _, rfl, _, rfl, x2, DR, p9, N, kkOf N ks, Rw, n.toNat, E2, List.range n.toNat, fun a b => a < b, rfl, hO2.same s812, rows8.same s812, nn, nms.nd, nms.hi, tab2, ap12, inR, lR, List.pairwise_lt_range, lt3, fun m3 M3 H13 s13 pm3 pw3 am3 => ?_⟩
        have s813 := s812.trans s13
        have in3 : ∀ i ∈ M3, i < n.toNat := fun i hi => inR i (pm3.mem_iff.mp hi)
        refine ⟨x1, DR, m3, N, kkOf N ks, Rw, n.toNat, E1, M3, TE2 E2 Rw n.toNat fun a b => a < b, rfl, hO1'.same s813, rows8.same s813, nn, nms.nd, nms.hi, tab1, am3, in3, by rw [pm3.length_eq]; exact lR, pw3, te_tr tab2 lt3, fun m4 M4 H14 s14 pm4 pw4 am4 => ?_⟩
        have s814 := s813.trans s14
        have hO114 := hO1'.same s814
        obtain ⟨dxa, txa, xsa, ha1, ha2, ha3⟩ := id hO114.ex
        refine ⟨_, rfl, _, rfl, x1, dxa, _, rfl, ha1, rfl, _, rfl, x1, x2, E1, E2, rfl, hO114, hO2.same s814, eok_of nms en2, eok_then nms en1 en2, fun x3 H15 s15 hO3 => ?_⟩
        have s815 := s814.trans s15
        refine ⟨_, rfl, _, rfl, x3, DR, p9, N, kkOf N ks, Rw, n.toNat, thenE E1 E2, List.range n.toNat, fun a b => a < b, rfl, hO3, rows8.same s815, nn, nms.nd, nms.hi, tab_then tab1 tab2, ((s13.trans s14).trans s15) _ _ ap12, inR, lR, List.pairwise_lt_range, lt3, fun m5 M5 H16 s16 pm5 pw5 am5 => ?_⟩
        have pw5' : M5.Pairwise (TE2 E1 Rw n.toNat (TE2 E2 Rw n.toNat fun a b => a < b)) := pw5.imp fun {a b} h => (te_then a b).mp h
        have eM2 : M4 = M5 := pw_one (te_as tab1 (te_as tab2 as2)) ((pm4.trans pm3).trans pm5.symm) pw4 pw5'
        subst eM2
        have s816 := s815.trans s16
        refine ⟨numD M4, numD M4, dp_nums ((s15.trans s16) _ _ am4), dp_nums am5, sh_nums M4, sh_nums M4, ?_⟩
        rw [eqv_nums]
        have hO116 := hO1'.same s816
        obtain ⟨dxc, txc, xsc, hc1, hc2, hc3⟩ := id hO116.ex
        have pE := s816 _ _ p1'
        have cE := c18.mono (H' := H16) fun _ _ z => s816 _ _ z
        have g16 : Pt H16 r := g5.same (s58.trans s816)
        have b16 : But r H H16 := bH5.trans (But.of (s58.trans s816))
        refine ⟨_, rfl, ite2 (fun _ => ?_) (fun e => ?_)⟩
        · refine ⟨_, rfl, x1, dxc, _, rfl, hc1, x1, dxc, _, _, rfl, hc1, rfl, _, rfl, p1, _, rfl, .inl ⟨SqL.of pE, fun tt htt => ?_⟩⟩
          have st := same_new (o := .tup xs1) htt
          refine ⟨.tuple (E1.map entD), .tuple (E1.map entD), .tup (SqT.of (st _ _ hc2)) (dp_ents (hc3.mono fun _ _ z => st _ _ z)), .tup (SqT.of upd_same) (dp_ents (cE.mono fun _ _ z => st _ _ z)), sh_ents (eok_of nms en1).col, sh_ents (eok_of nms en1).col, ?_⟩
          rw [eqv_ents (eok_of nms en1).col]
          exact q _ (g16.new htt) (b16.trans (But.of st))
        · exact absurd rfl e
end

end K18

set_option Elab.async false
set_option linter.all false
set_option maxRecDepth 100000
set_option maxHeartbeats 8000000
namespace K18
open PySem PySem.Spec L2 PSG PSS
open PyProof.Rows (IntsAre AllBare)
abbrev s_law : Stmt := topS 44
theorem sc_law : FnScope ["_law_script", "_law_k"] ["_law_script"] (defScope s_law) := ⟨rfl, rfl, rfl, by decide +kernel, rfl, by decide +kernel, by decide +kernel⟩
section
variable {P : Program} {w : World} {K : PySem.W.Frag} {mg : Str → Option Value} {base : Heap}
def spLaw (K : PySem.W.Frag) : Sp := fun vs H Q _ => ∃ (a : Addr) (ns : List Int), vs = [.ref a] ∧ SqL K H a (ns.map V.int) ∧ ns.length ≤ 63 ∧ ∀ H', Q (.bl true) H'
theorem ok_law {f fP fR : Addr} {fd dP dR : FuncData} (F : Fun K "law" "law" s_law f fd) (T : Blt mg)
    (F__law_pot : Fun K "_law_pot" "_law_pot" s__law_pot fP dP) (b__law_pot : Binds K dP ["_law_script", "_law_k"] []) (g__law_pot : mg "_law_pot" = some (.ref fP))
    (F__law_right : Fun K "_law_right" "_law_right" s__law_right fR dR) (b__law_right : Binds K dR ["_law_pot_here"] []) (g__law_right : mg "_law_right" = some (.ref fR)) (G__law_right : FnG P w K mg base CX0 9 fR dR ["_law_pot_here"] spRight) :
    FnG P w K mg base CX0 10 f fd ["_law_script"] (spLaw K) := by
  have sc := sc_law
  have G__law_pot : FnOk P w K mg base CX0 1 fP dP ["_law_script", "_law_k"] (spPot K) := ok_pot F__law_pot T
  refine okG F sc (fun vs H Q E h => ?_) (fun cdv B up s H vs Q E hr gd h => ?_)
  · obtain ⟨a, ns, rfl, _⟩ := h
    rfl
  · obtain ⟨a, ns, rfl, hS, hlen, k⟩ := h
    refine ⟨_, (pss_one (ps_ret (pe_callB (cr_all rfl) (by rfl) T.n_all (by decide +kernel) (pa_cons (pe_lc (own := [("_law_k", 1)]) (g := gName 1) (tt := tYes) (by rfl) sc.nd (pi_range1 (by rfl) T.n_range (pa_cons (pe_callB (call_max2 rfl) (by rfl) T.n_max (by decide +kernel) (pa_cons pe_int (pa_cons (pe_callB (call_min2 rfl) (by rfl) T.n_min (by decide +kernel) (pa_cons pe_int (pa_cons (pe_callB call_len_seq (by rfl) T.n_len PySem.boot_len (pa_cons (pv 0) pa_nil)) pa_nil))) pa_nil))) pa_nil)) (blkOk_by (own := [("_law_k", 1)]) (N := ["_law_script", "_law_k"]) (sc := defScope s_law) (by decide +kernel)) (fun _ _ _ _ _ => pg_name (i := 1) sc.nd rfl (Or.inl rfl)) (fun _ _ _ _ _ => pts_nil) (fun _ _ _ _ _ => (pe_callG G__law_right (hr.mono (by decide)) gd (by rfl) g__law_right F__law_right.kp b__law_right .nil pass0 (pa_cons (pe_call G__law_pot (hr.mono (by decide)) (by rfl) g__law_pot F__law_pot.kp b__law_pot .nil pass0 (pa_cons (pv 0) (pa_cons (pv 1) pa_nil))) pa_nil)))) pa_nil)))), ?_⟩
    refine ⟨_, rfl, a, _, rfl, .inl hS, _, _, rfl, _, _, rfl, _, rfl, ?_, ?_, fun D hD => w_range (lo := 0) (fun i G => Same H G ∧ G D = some (.lst ((List.replicate i true).map V.bl))) ⟨same_new hD, upd_same⟩ ?_ ?_⟩
    · split <;> split <;> omega
    · split <;> split <;> omega
    · rintro i G hi ⟨s0, aD⟩
      have lt : i ≤ 1000 := by
        have z : (i : Int) < 8 := by
          have z1 : (i : Int) < _ := Int.lt_toNat.mp hi
          refine Int.lt_of_lt_of_le z1 ?_
          split <;> split <;> omega
        omega
      refine ⟨rfl, _, rfl, _, rfl, a, ns, i, (by show [V.ref a, V.int (0 + (i : Int))] = [V.ref a, V.int i]; rw [Int.zero_add]), s0.seq hS, lt, fun r x y hr0 x0 y0 y1 => ?_⟩
      have g1 : Pt (upd G r (.lst [.int x, .int y])) r := ⟨x, y, upd_same, x0, y0, y1⟩
      have nDr : D ≠ r := ne_of_none aD hr0
      refine ⟨r, rfl, g1, fun G' g' b' => ?_⟩
      refine ⟨_, b' _ _ nDr ((upd_ne nDr).trans aD), by rw [List.length_map, List.length_replicate, sizeLine_eq]; omega, fun b o e => ?_, ?_⟩
      · have nb : b ≠ r := fun z => by
          have := s0 _ _ e
          rw [z, hr0] at this
          cases this
        exact (upd_ne (ne_of_none e hD)).trans (b' _ _ nb ((upd_ne nb).trans (s0 _ _ e)))
      · rw [upd_same, List.replicate_succ', List.map_append]
        rfl
    · rintro G ⟨s0, aD⟩
      refine ⟨D, _, rfl, SqL.of aD, ?_⟩
      rw [show ∀ m : Nat, (List.replicate m true).all id = true from fun m => List.all_eq_true.mpr fun x hx => (List.mem_replicate.mp hx).2 ▸ rfl]
      exact k G
end

end K18

set_option Elab.async false
set_option linter.all false
set_option maxRecDepth 100000
set_option maxHeartbeats 8000000
namespace K18
open PySem PySem.Spec L2 PSG PSS
open PyProof.Rows (IntsAre AllBare)
set_option maxHeartbeats 0 in
theorem all_mk {l : PySem.W.OpenLaw} {w : World} {K : PySem.W.Frag} {h : Heap} {mg : Str → Option Value} {fa C TI E0 fI fm_sign fm_backwards fm_then fp_entries qp_entries fp_columns qp_columns fd0 fd1 fd2 fd3 fd4 fd5 fd6 fd7 fd8 fd9 fd10 fd11 fd12 fd13 fd14 fd15 fd16 fd17 fd18 fd19 fd20 fd21 fd22 fd23 fd24 fd25 : Addr} (X : K.In h) (G : h.Ns mainGlobals mg) (hfa : mg "law" = some (.ref fa))
    {odI anI odm_sign anm_sign odm_backwards anm_backwards odm_then anm_then odp_entries anp_entries odp_columns anp_columns odd0 and0 odd1 and1 odd2 and2 odd3 and3 odd4 and4 odd5 and5 odd6 and6 odd7 and7 odd8 and8 odd9 and9 odd10 and10 odd11 and11 odd12 and12 odd13 and13 odd14 and14 odd15 and15 odd16 and16 odd17 and17 odd18 and18 odd19 and19 odd20 and20 odd21 and21 odd22 and22 odd23 and23 odd24 and24 odd25 and25 odT : Option Addr} {slI slm_sign slm_backwards slm_then slp_entries slp_columns sld0 sld1 sld2 sld3 sld4 sld5 sld6 sld7 sld8 sld9 sld10 sld11 sld12 sld13 sld14 sld15 sld16 sld17 sld18 sld19 sld20 sld21 sld22 sld23 sld24 sld25 slT : Array (Option Value)} {ocI kVI dcI pmI cvI ctI ocm_sign kVm_sign dcm_sign pmm_sign cvm_sign ctm_sign ocm_backwards kVm_backwards dcm_backwards pmm_backwards cvm_backwards ctm_backwards ocm_then kVm_then dcm_then pmm_then cvm_then ctm_then ocp_entries kVp_entries dcp_entries pmp_entries cvp_entries ctp_entries ocp_columns kVp_columns dcp_columns pmp_columns cvp_columns ctp_columns ocd0 kVd0 dcd0 pmd0 cvd0 ctd0 ocd1 kVd1 dcd1 pmd1 cvd1 ctd1 ocd2 kVd2 dcd2 pmd2 cvd2 ctd2 ocd3 kVd3 dcd3 pmd3 cvd3 ctd3 ocd4 kVd4 dcd4 pmd4 cvd4 ctd4 ocd5 kVd5 dcd5 pmd5 cvd5 ctd5 ocd6 kVd6 dcd6 pmd6 cvd6 ctd6 ocd7 kVd7 dcd7 pmd7 cvd7 ctd7 ocd8 kVd8 dcd8 pmd8 cvd8 ctd8 ocd9 kVd9 dcd9 pmd9 cvd9 ctd9 ocd10 kVd10 dcd10 pmd10 cvd10 ctd10 ocd11 kVd11 dcd11 pmd11 cvd11 ctd11 ocd12 kVd12 dcd12 pmd12 cvd12 ctd12 ocd13 kVd13 dcd13 pmd13 cvd13 ctd13 ocd14 kVd14 dcd14 pmd14 cvd14 ctd14 ocd15 kVd15 dcd15 pmd15 cvd15 ctd15 ocd16 kVd16 dcd16 pmd16 cvd16 ctd16 ocd17 kVd17 dcd17 pmd17 cvd17 ctd17 ocd18 kVd18 dcd18 pmd18 cvd18 ctd18 ocd19 kVd19 dcd19 pmd19 cvd19 ctd19 ocd20 kVd20 dcd20 pmd20 cvd20 ctd20 ocd21 kVd21 dcd21 pmd21 cvd21 ctd21 ocd22 kVd22 dcd22 pmd22 cvd22 ctd22 ocd23 kVd23 dcd23 pmd23 cvd23 ctd23 ocd24 kVd24 dcd24 pmd24 cvd24 ctd24 ocd25 kVd25 dcd25 pmd25 cvd25 ctd25 ocT : Value} {restp_entries restp_columns : List Value} {nT : Nat} {tL tM tN tC : Tok}
    (aC : PySem.W.nsIn K mainGlobals "Order" = some (some (.ref C)))
    (aI : PySem.W.findIn K (.ref C) "__init__" = some (some (.ref fI)))
    (iI : PySem.W.isFn K (.ref fI) = true)
    (lI : K.lookup fI = some ⟨ocI, odI, .func (PySem.W.fnOf "__init__" "Order.__init__" (defArgs s_Order___init__) (defBody s_Order___init__) (defScope s_Order___init__) (.ref TI) kVI dcI pmI anI cvI ctI), slI⟩)
    (cI : PySem.W.codeIn K cvI "Order.__init__" = true)
    (kI : PySem.W.keepIn K (.ref fI) = true)
    (am_sign : PySem.W.findIn K (.ref C) "sign" = some (some (.ref fm_sign)))
    (im_sign : PySem.W.isFn K (.ref fm_sign) = true)
    (lm_sign : K.lookup fm_sign = some ⟨ocm_sign, odm_sign, .func (PySem.W.fnOf "sign" "Order.sign" (defArgs s_Order_sign) (defBody s_Order_sign) (defScope s_Order_sign) .none kVm_sign dcm_sign pmm_sign anm_sign cvm_sign ctm_sign), slm_sign⟩)
    (cm_sign : PySem.W.codeIn K cvm_sign "Order.sign" = true)
    (km_sign : PySem.W.keepIn K (.ref fm_sign) = true)
    (am_backwards : PySem.W.findIn K (.ref C) "backwards" = some (some (.ref fm_backwards)))
    (im_backwards : PySem.W.isFn K (.ref fm_backwards) = true)
    (lm_backwards : K.lookup fm_backwards = some ⟨ocm_backwards, odm_backwards, .func (PySem.W.fnOf "backwards" "Order.backwards" (defArgs s_Order_backwards) (defBody s_Order_backwards) (defScope s_Order_backwards) .none kVm_backwards dcm_backwards pmm_backwards anm_backwards cvm_backwards ctm_backwards), slm_backwards⟩)
    (cm_backwards : PySem.W.codeIn K cvm_backwards "Order.backwards" = true)
    (km_backwards : PySem.W.keepIn K (.ref fm_backwards) = true)
    (am_then : PySem.W.findIn K (.ref C) "then" = some (some (.ref fm_then)))
    (im_then : PySem.W.isFn K (.ref fm_then) = true)
    (lm_then : K.lookup fm_then = some ⟨ocm_then, odm_then, .func (PySem.W.fnOf "then" "Order.then" (defArgs s_Order_then) (defBody s_Order_then) (defScope s_Order_then) .none kVm_then dcm_then pmm_then anm_then cvm_then ctm_then), slm_then⟩)
    (cm_then : PySem.W.codeIn K cvm_then "Order.then" = true)
    (km_then : PySem.W.keepIn K (.ref fm_then) = true)
    (lT : K.lookup TI = some ⟨ocT, odT, .seq #[.ref E0] nT, slT⟩)
    (ap_entries : PySem.W.findIn K (.ref C) "entries" = some (some (.ref qp_entries)))
    (gp_entries : PySem.W.specialIn K (.ref qp_entries) "__get__" = some (some (.builtin "property.__get__")))
    (tp_entries : PySem.W.takesIn K (.ref qp_entries) = some true)
    (rp_entries : PySem.W.recIn K qp_entries "property" = some (.ref fp_entries :: restp_entries))
    (lp_entries : K.lookup fp_entries = some ⟨ocp_entries, odp_entries, .func (PySem.W.fnOf "entries" "Order.entries" (defArgs s_Order_entries) (defBody s_Order_entries) (defScope s_Order_entries) .none kVp_entries dcp_entries pmp_entries anp_entries cvp_entries ctp_entries), slp_entries⟩)
    (cp_entries : PySem.W.codeIn K cvp_entries "Order.entries" = true)
    (kp_entries : PySem.W.keepIn K (.ref fp_entries) = true)
    (ap_columns : PySem.W.findIn K (.ref C) "columns" = some (some (.ref qp_columns)))
    (gp_columns : PySem.W.specialIn K (.ref qp_columns) "__get__" = some (some (.builtin "property.__get__")))
    (tp_columns : PySem.W.takesIn K (.ref qp_columns) = some true)
    (rp_columns : PySem.W.recIn K qp_columns "property" = some (.ref fp_columns :: restp_columns))
    (lp_columns : K.lookup fp_columns = some ⟨ocp_columns, odp_columns, .func (PySem.W.fnOf "columns" "Order.columns" (defArgs s_Order_columns) (defBody s_Order_columns) (defScope s_Order_columns) .none kVp_columns dcp_columns pmp_columns anp_columns cvp_columns ctp_columns), slp_columns⟩)
    (cp_columns : PySem.W.codeIn K cvp_columns "Order.columns" = true)
    (kp_columns : PySem.W.keepIn K (.ref fp_columns) = true)
    (pg : PySem.W.plainGet K C Str.empty = true)
    (hd : PySem.W.hasDictIn K C = true)
    (po : PySem.W.plainOver K C = true)
    (sa : PySem.W.findIn K (.ref C) "__setattr__" = some (some (.builtin "object.__setattr__")))
    (mk : PySem.W.makesIn K C = true)
    (kc : PySem.W.keepIn K (.ref C) = true)
    (nE : PySem.W.findIn K (.ref C) "_entries" = some none)
    (kL : PySem.W.kitOne K (.type "list") (.ref C) = some false)
    (kT : PySem.W.kitOne K (.type "tuple") (.ref C) = some false)
    (i1 : PySem.W.findIn K (.ref C) "__class__" = some (some (.builtin "object.__class__")))
    (i2 : PySem.W.specialIn K (.builtin "object.__class__") "__get__" = some (some (.builtin "getset_descriptor.__get__")))
    (i3 : PySem.W.takesIn K (.builtin "object.__class__") = some true)
    (i4 : PySem.W.mroIn K C (.type "object") = some true)
    (ad0 : PySem.W.nsIn K mainGlobals "_law_pot" = some (some (.ref fd0)))
    (ld0 : K.lookup fd0 = some ⟨ocd0, odd0, .func (PySem.W.fnOf "_law_pot" "_law_pot" (defArgs s__law_pot) (defBody s__law_pot) (defScope s__law_pot) .none kVd0 dcd0 pmd0 and0 cvd0 ctd0), sld0⟩)
    (cd0 : PySem.W.codeIn K cvd0 "_law_pot" = true)
    (kd0 : PySem.W.keepIn K (.ref fd0) = true)
    (ad1 : PySem.W.nsIn K mainGlobals "_law_draw" = some (some (.ref fd1)))
    (ld1 : K.lookup fd1 = some ⟨ocd1, odd1, .func (PySem.W.fnOf "_law_draw" "_law_draw" (defArgs s__law_draw) (defBody s__law_draw) (defScope s__law_draw) .none kVd1 dcd1 pmd1 and1 cvd1 ctd1), sld1⟩)
    (cd1 : PySem.W.codeIn K cvd1 "_law_draw" = true)
    (kd1 : PySem.W.keepIn K (.ref fd1) = true)
    (ad2 : PySem.W.nsIn K mainGlobals "_law_word" = some (some (.ref fd2)))
    (ld2 : K.lookup fd2 = some ⟨ocd2, odd2, .func (PySem.W.fnOf "_law_word" "_law_word" (defArgs s__law_word) (defBody s__law_word) (defScope s__law_word) .none kVd2 dcd2 pmd2 and2 cvd2 ctd2), sld2⟩)
    (cd2 : PySem.W.codeIn K cvd2 "_law_word" = true)
    (kd2 : PySem.W.keepIn K (.ref fd2) = true)
    (ad3 : PySem.W.nsIn K mainGlobals "_law_column" = some (some (.ref fd3)))
    (ld3 : K.lookup fd3 = some ⟨ocd3, odd3, .func (PySem.W.fnOf "_law_column" "_law_column" (defArgs s__law_column) (defBody s__law_column) (defScope s__law_column) .none kVd3 dcd3 pmd3 and3 cvd3 ctd3), sld3⟩)
    (cd3 : PySem.W.codeIn K cvd3 "_law_column" = true)
    (kd3 : PySem.W.keepIn K (.ref fd3) = true)
    (ad4 : PySem.W.nsIn K mainGlobals "_law_names" = some (some (.ref fd4)))
    (ld4 : K.lookup fd4 = some ⟨ocd4, odd4, .func (PySem.W.fnOf "_law_names" "_law_names" (defArgs s__law_names) (defBody s__law_names) (defScope s__law_names) .none kVd4 dcd4 pmd4 and4 cvd4 ctd4), sld4⟩)
    (cd4 : PySem.W.codeIn K cvd4 "_law_names" = true)
    (kd4 : PySem.W.keepIn K (.ref fd4) = true)
    (ad5 : PySem.W.nsIn K mainGlobals "_law_over" = some (some (.ref fd5)))
    (ld5 : K.lookup fd5 = some ⟨ocd5, odd5, .func (PySem.W.fnOf "_law_over" "_law_over" (defArgs s__law_over) (defBody s__law_over) (defScope s__law_over) .none kVd5 dcd5 pmd5 and5 cvd5 ctd5), sld5⟩)
    (cd5 : PySem.W.codeIn K cvd5 "_law_over" = true)
    (kd5 : PySem.W.keepIn K (.ref fd5) = true)
    (ad6 : PySem.W.nsIn K mainGlobals "_law_value" = some (some (.ref fd6)))
    (ld6 : K.lookup fd6 = some ⟨ocd6, odd6, .func (PySem.W.fnOf "_law_value" "_law_value" (defArgs s__law_value) (defBody s__law_value) (defScope s__law_value) .none kVd6 dcd6 pmd6 and6 cvd6 ctd6), sld6⟩)
    (cd6 : PySem.W.codeIn K cvd6 "_law_value" = true)
    (kd6 : PySem.W.keepIn K (.ref fd6) = true)
    (ad7 : PySem.W.nsIn K mainGlobals "is_integer" = some (some (.ref fd7)))
    (ld7 : K.lookup fd7 = some ⟨ocd7, odd7, .func (PySem.W.fnOf "is_integer" "is_integer" (defArgs s_is_integer) (defBody s_is_integer) (defScope s_is_integer) .none kVd7 dcd7 pmd7 and7 cvd7 ctd7), sld7⟩)
    (cd7 : PySem.W.codeIn K cvd7 "is_integer" = true)
    (kd7 : PySem.W.keepIn K (.ref fd7) = true)
    (ad8 : PySem.W.nsIn K mainGlobals "is_letters" = some (some (.ref fd8)))
    (ld8 : K.lookup fd8 = some ⟨ocd8, odd8, .func (PySem.W.fnOf "is_letters" "is_letters" (defArgs s_is_letters) (defBody s_is_letters) (defScope s_is_letters) .none kVd8 dcd8 pmd8 and8 cvd8 ctd8), sld8⟩)
    (cd8 : PySem.W.codeIn K cvd8 "is_letters" = true)
    (kd8 : PySem.W.keepIn K (.ref fd8) = true)
    (ad9 : PySem.W.nsIn K mainGlobals "is_value" = some (some (.ref fd9)))
    (ld9 : K.lookup fd9 = some ⟨ocd9, odd9, .func (PySem.W.fnOf "is_value" "is_value" (defArgs s_is_value) (defBody s_is_value) (defScope s_is_value) .none kVd9 dcd9 pmd9 and9 cvd9 ctd9), sld9⟩)
    (cd9 : PySem.W.codeIn K cvd9 "is_value" = true)
    (kd9 : PySem.W.keepIn K (.ref fd9) = true)
    (ad10 : PySem.W.nsIn K mainGlobals "kind_of_value" = some (some (.ref fd10)))
    (ld10 : K.lookup fd10 = some ⟨ocd10, odd10, .func (PySem.W.fnOf "kind_of_value" "kind_of_value" (defArgs s_kind_of_value) (defBody s_kind_of_value) (defScope s_kind_of_value) .none kVd10 dcd10 pmd10 and10 cvd10 ctd10), sld10⟩)
    (cd10 : PySem.W.codeIn K cvd10 "kind_of_value" = true)
    (kd10 : PySem.W.keepIn K (.ref fd10) = true)
    (ad11 : PySem.W.nsIn K mainGlobals "sign_between" = some (some (.ref fd11)))
    (ld11 : K.lookup fd11 = some ⟨ocd11, odd11, .func (PySem.W.fnOf "sign_between" "sign_between" (defArgs s_sign_between) (defBody s_sign_between) (defScope s_sign_between) .none kVd11 dcd11 pmd11 and11 cvd11 ctd11), sld11⟩)
    (cd11 : PySem.W.codeIn K cvd11 "sign_between" = true)
    (kd11 : PySem.W.keepIn K (.ref fd11) = true)
    (ad12 : PySem.W.nsIn K mainGlobals "sign_of" = some (some (.ref fd12)))
    (ld12 : K.lookup fd12 = some ⟨ocd12, odd12, .func (PySem.W.fnOf "sign_of" "sign_of" (defArgs s_sign_of) (defBody s_sign_of) (defScope s_sign_of) .none kVd12 dcd12 pmd12 and12 cvd12 ctd12), sld12⟩)
    (cd12 : PySem.W.codeIn K cvd12 "sign_of" = true)
    (kd12 : PySem.W.keepIn K (.ref fd12) = true)
    (ad13 : PySem.W.nsIn K mainGlobals "is_order_column" = some (some (.ref fd13)))
    (ld13 : K.lookup fd13 = some ⟨ocd13, odd13, .func (PySem.W.fnOf "is_order_column" "is_order_column" (defArgs s_is_order_column) (defBody s_is_order_column) (defScope s_is_order_column) .none kVd13 dcd13 pmd13 and13 cvd13 ctd13), sld13⟩)
    (cd13 : PySem.W.codeIn K cvd13 "is_order_column" = true)
    (kd13 : PySem.W.keepIn K (.ref fd13) = true)
    (ad14 : PySem.W.nsIn K mainGlobals "is_entry" = some (some (.ref fd14)))
    (ld14 : K.lookup fd14 = some ⟨ocd14, odd14, .func (PySem.W.fnOf "is_entry" "is_entry" (defArgs s_is_entry) (defBody s_is_entry) (defScope s_is_entry) .none kVd14 dcd14 pmd14 and14 cvd14 ctd14), sld14⟩)
    (cd14 : PySem.W.codeIn K cvd14 "is_entry" = true)
    (kd14 : PySem.W.keepIn K (.ref fd14) = true)
    (ad15 : PySem.W.nsIn K mainGlobals "sign_by" = some (some (.ref fd15)))
    (ld15 : K.lookup fd15 = some ⟨ocd15, odd15, .func (PySem.W.fnOf "sign_by" "sign_by" (defArgs s_sign_by) (defBody s_sign_by) (defScope s_sign_by) .none kVd15 dcd15 pmd15 and15 cvd15 ctd15), sld15⟩)
    (cd15 : PySem.W.codeIn K cvd15 "sign_by" = true)
    (kd15 : PySem.W.keepIn K (.ref fd15) = true)
    (ad16 : PySem.W.nsIn K mainGlobals "entries_in" = some (some (.ref fd16)))
    (ld16 : K.lookup fd16 = some ⟨ocd16, odd16, .func (PySem.W.fnOf "entries_in" "entries_in" (defArgs s_entries_in) (defBody s_entries_in) (defScope s_entries_in) .none kVd16 dcd16 pmd16 and16 cvd16 ctd16), sld16⟩)
    (cd16 : PySem.W.codeIn K cvd16 "entries_in" = true)
    (kd16 : PySem.W.keepIn K (.ref fd16) = true)
    (ad17 : PySem.W.nsIn K mainGlobals "is_listing" = some (some (.ref fd17)))
    (ld17 : K.lookup fd17 = some ⟨ocd17, odd17, .func (PySem.W.fnOf "is_listing" "is_listing" (defArgs s_is_listing) (defBody s_is_listing) (defScope s_is_listing) .none kVd17 dcd17 pmd17 and17 cvd17 ctd17), sld17⟩)
    (cd17 : PySem.W.codeIn K cvd17 "is_listing" = true)
    (kd17 : PySem.W.keepIn K (.ref fd17) = true)
    (ad18 : PySem.W.nsIn K mainGlobals "first_wrong_entry" = some (some (.ref fd18)))
    (ld18 : K.lookup fd18 = some ⟨ocd18, odd18, .func (PySem.W.fnOf "first_wrong_entry" "first_wrong_entry" (defArgs s_first_wrong_entry) (defBody s_first_wrong_entry) (defScope s_first_wrong_entry) .none kVd18 dcd18 pmd18 and18 cvd18 ctd18), sld18⟩)
    (cd18 : PySem.W.codeIn K cvd18 "first_wrong_entry" = true)
    (kd18 : PySem.W.keepIn K (.ref fd18) = true)
    (ad19 : PySem.W.nsIn K mainGlobals "_law_due" = some (some (.ref fd19)))
    (ld19 : K.lookup fd19 = some ⟨ocd19, odd19, .func (PySem.W.fnOf "_law_due" "_law_due" (defArgs s__law_due) (defBody s__law_due) (defScope s__law_due) .none kVd19 dcd19 pmd19 and19 cvd19 ctd19), sld19⟩)
    (cd19 : PySem.W.codeIn K cvd19 "_law_due" = true)
    (kd19 : PySem.W.keepIn K (.ref fd19) = true)
    (ad20 : PySem.W.nsIn K mainGlobals "_law_signs" = some (some (.ref fd20)))
    (ld20 : K.lookup fd20 = some ⟨ocd20, odd20, .func (PySem.W.fnOf "_law_signs" "_law_signs" (defArgs s__law_signs) (defBody s__law_signs) (defScope s__law_signs) .none kVd20 dcd20 pmd20 and20 cvd20 ctd20), sld20⟩)
    (cd20 : PySem.W.codeIn K cvd20 "_law_signs" = true)
    (kd20 : PySem.W.keepIn K (.ref fd20) = true)
    (ad21 : PySem.W.nsIn K mainGlobals "_law_inserted" = some (some (.ref fd21)))
    (ld21 : K.lookup fd21 = some ⟨ocd21, odd21, .func (PySem.W.fnOf "_law_inserted" "_law_inserted" (defArgs s__law_inserted) (defBody s__law_inserted) (defScope s__law_inserted) .none kVd21 dcd21 pmd21 and21 cvd21 ctd21), sld21⟩)
    (cd21 : PySem.W.codeIn K cvd21 "_law_inserted" = true)
    (kd21 : PySem.W.keepIn K (.ref fd21) = true)
    (ad22 : PySem.W.nsIn K mainGlobals "_law_sorted" = some (some (.ref fd22)))
    (ld22 : K.lookup fd22 = some ⟨ocd22, odd22, .func (PySem.W.fnOf "_law_sorted" "_law_sorted" (defArgs s__law_sorted) (defBody s__law_sorted) (defScope s__law_sorted) .none kVd22 dcd22 pmd22 and22 cvd22 ctd22), sld22⟩)
    (cd22 : PySem.W.codeIn K cvd22 "_law_sorted" = true)
    (kd22 : PySem.W.keepIn K (.ref fd22) = true)
    (ad23 : PySem.W.nsIn K mainGlobals "_law_pairs_right" = some (some (.ref fd23)))
    (ld23 : K.lookup fd23 = some ⟨ocd23, odd23, .func (PySem.W.fnOf "_law_pairs_right" "_law_pairs_right" (defArgs s__law_pairs_right) (defBody s__law_pairs_right) (defScope s__law_pairs_right) .none kVd23 dcd23 pmd23 and23 cvd23 ctd23), sld23⟩)
    (cd23 : PySem.W.codeIn K cvd23 "_law_pairs_right" = true)
    (kd23 : PySem.W.keepIn K (.ref fd23) = true)
    (ad24 : PySem.W.nsIn K mainGlobals "_law_right" = some (some (.ref fd24)))
    (ld24 : K.lookup fd24 = some ⟨ocd24, odd24, .func (PySem.W.fnOf "_law_right" "_law_right" (defArgs s__law_right) (defBody s__law_right) (defScope s__law_right) .none kVd24 dcd24 pmd24 and24 cvd24 ctd24), sld24⟩)
    (cd24 : PySem.W.codeIn K cvd24 "_law_right" = true)
    (kd24 : PySem.W.keepIn K (.ref fd24) = true)
    (ad25 : PySem.W.nsIn K mainGlobals "law" = some (some (.ref fd25)))
    (ld25 : K.lookup fd25 = some ⟨ocd25, odd25, .func (PySem.W.fnOf "law" "law" (defArgs s_law) (defBody s_law) (defScope s_law) .none kVd25 dcd25 pmd25 and25 cvd25 ctd25), sld25⟩)
    (cd25 : PySem.W.codeIn K cvd25 "law" = true)
    (kd25 : PySem.W.keepIn K (.ref fd25) = true)
    (z_len : PySem.W.nsIn K mainGlobals "len" = some none)
    (z_max : PySem.W.nsIn K mainGlobals "max" = some none)
    (z_min : PySem.W.nsIn K mainGlobals "min" = some none)
    (z_abs : PySem.W.nsIn K mainGlobals "abs" = some none)
    (z_int : PySem.W.nsIn K mainGlobals "int" = some none)
    (z_divmod : PySem.W.nsIn K mainGlobals "divmod" = some none)
    (z_range : PySem.W.nsIn K mainGlobals "range" = some none)
    (z_isinstance : PySem.W.nsIn K mainGlobals "isinstance" = some none)
    (z_repr : PySem.W.nsIn K mainGlobals "repr" = some none)
    (z_all : PySem.W.nsIn K mainGlobals "all" = some none)
    (z_bool : PySem.W.nsIn K mainGlobals "bool" = some none)
    (z_str : PySem.W.nsIn K mainGlobals "str" = some none)
    (z_set : PySem.W.nsIn K mainGlobals "set" = some none)
    (z_sorted : PySem.W.nsIn K mainGlobals "sorted" = some none)
    (z_enumerate : PySem.W.nsIn K mainGlobals "enumerate" = some none)
    (z_zip : PySem.W.nsIn K mainGlobals "zip" = some none)
    (z_reversed : PySem.W.nsIn K mainGlobals "reversed" = some none)
    (z_dict : PySem.W.nsIn K mainGlobals "dict" = some none)
    (z_list : PySem.W.nsIn K mainGlobals "list" = some none)
    (z_tuple : PySem.W.nsIn K mainGlobals "tuple" = some none)
    (zL : PySem.W.nsIn K mainGlobals "LETTERS" = some (some (.str "abcdefghijklmnopqrstuvwxyz" tL)))
    (zM : PySem.W.nsIn K mainGlobals "MOST_TEXT" = some (some (.int 12 tM)))
    (zN : PySem.W.nsIn K mainGlobals "NO_ENTRIES" = some (some (.str "none" tN)))
    (zC : PySem.W.nsIn K mainGlobals "MOST_COLUMN" = some (some (.int 17 tC))) :
    ∃ fd : FuncData, (∀ (s : Shared) (v : Value), BindsTo s fd ⟨[v], []⟩ [("_law_script", v)]) ∧ ∀ base : Heap, K.In base → base.Ns mainGlobals mg → FnG l.prog w K mg base CX0 10 fa fd ["_law_script"] (spLaw K) := by
  have e := hfa.symm.trans (PySem.W.mg_of X G ad25)
  cases e
  have F__law_pot := fun_mk (st := s__law_pot) ld0 cd0 kd0
  have b__law_pot := F__law_pot.binds (ps := ["_law_script", "_law_k"]) fun _ _ _ _ _ _ us hl => match us, hl with | [_, _], _ => rfl
  have g__law_pot := PySem.W.mg_of X G ad0
  have F__law_draw := fun_mk (st := s__law_draw) ld1 cd1 kd1
  have b__law_draw := F__law_draw.binds (ps := ["_law_pot_here", "_law_many"]) fun _ _ _ _ _ _ us hl => match us, hl with | [_, _], _ => rfl
  have g__law_draw := PySem.W.mg_of X G ad1
  have F__law_word := fun_mk (st := s__law_word) ld2 cd2 kd2
  have b__law_word := F__law_word.binds (ps := ["_law_pot_here", "_law_most"]) fun _ _ _ _ _ _ us hl => match us, hl with | [_, _], _ => rfl
  have g__law_word := PySem.W.mg_of X G ad2
  have F__law_column := fun_mk (st := s__law_column) ld3 cd3 kd3
  have b__law_column := F__law_column.binds (ps := ["_law_pot_here"]) fun _ _ _ _ _ _ us hl => match us, hl with | [_], _ => rfl
  have g__law_column := PySem.W.mg_of X G ad3
  have F__law_names := fun_mk (st := s__law_names) ld4 cd4 kd4
  have b__law_names := F__law_names.binds (ps := ["_law_pot_here"]) fun _ _ _ _ _ _ us hl => match us, hl with | [_], _ => rfl
  have g__law_names := PySem.W.mg_of X G ad4
  have F__law_over := fun_mk (st := s__law_over) ld5 cd5 kd5
  have b__law_over := F__law_over.binds (ps := ["_law_pot_here", "_law_names_here"]) fun _ _ _ _ _ _ us hl => match us, hl with | [_, _], _ => rfl
  have g__law_over := PySem.W.mg_of X G ad5
  have F__law_value := fun_mk (st := s__law_value) ld6 cd6 kd6
  have b__law_value := F__law_value.binds (ps := ["_law_pot_here", "_law_is_text"]) fun _ _ _ _ _ _ us hl => match us, hl with | [_, _], _ => rfl
  have g__law_value := PySem.W.mg_of X G ad6
  have F_is_integer := fun_mk (st := s_is_integer) ld7 cd7 kd7
  have b_is_integer := F_is_integer.binds (ps := ["value"]) fun _ _ _ _ _ _ us hl => match us, hl with | [_], _ => rfl
  have g_is_integer := PySem.W.mg_of X G ad7
  have F_is_letters := fun_mk (st := s_is_letters) ld8 cd8 kd8
  have b_is_letters := F_is_letters.binds (ps := ["value"]) fun _ _ _ _ _ _ us hl => match us, hl with | [_], _ => rfl
  have g_is_letters := PySem.W.mg_of X G ad8
  have F_is_value := fun_mk (st := s_is_value) ld9 cd9 kd9
  have b_is_value := F_is_value.binds (ps := ["value"]) fun _ _ _ _ _ _ us hl => match us, hl with | [_], _ => rfl
  have g_is_value := PySem.W.mg_of X G ad9
  have F_kind_of_value := fun_mk (st := s_kind_of_value) ld10 cd10 kd10
  have b_kind_of_value := F_kind_of_value.binds (ps := ["value"]) fun _ _ _ _ _ _ us hl => match us, hl with | [_], _ => rfl
  have g_kind_of_value := PySem.W.mg_of X G ad10
  have F_sign_between := fun_mk (st := s_sign_between) ld11 cd11 kd11
  have b_sign_between := F_sign_between.binds (ps := ["one", "other"]) fun _ _ _ _ _ _ us hl => match us, hl with | [_, _], _ => rfl
  have g_sign_between := PySem.W.mg_of X G ad11
  have F_sign_of := fun_mk (st := s_sign_of) ld12 cd12 kd12
  have b_sign_of := F_sign_of.binds (ps := ["one", "other"]) fun _ _ _ _ _ _ us hl => match us, hl with | [_, _], _ => rfl
  have g_sign_of := PySem.W.mg_of X G ad12
  have F_is_order_column := fun_mk (st := s_is_order_column) ld13 cd13 kd13
  have b_is_order_column := F_is_order_column.binds (ps := ["value"]) fun _ _ _ _ _ _ us hl => match us, hl with | [_], _ => rfl
  have g_is_order_column := PySem.W.mg_of X G ad13
  have F_is_entry := fun_mk (st := s_is_entry) ld14 cd14 kd14
  have b_is_entry := F_is_entry.binds (ps := ["value"]) fun _ _ _ _ _ _ us hl => match us, hl with | [_], _ => rfl
  have g_is_entry := PySem.W.mg_of X G ad14
  have F_sign_by := fun_mk (st := s_sign_by) ld15 cd15 kd15
  have b_sign_by := F_sign_by.binds (ps := ["entries", "signs"]) fun _ _ _ _ _ _ us hl => match us, hl with | [_, _], _ => rfl
  have g_sign_by := PySem.W.mg_of X G ad15
  have F_entries_in := fun_mk (st := s_entries_in) ld16 cd16 kd16
  have b_entries_in := F_entries_in.binds (ps := ["order"]) fun _ _ _ _ _ _ us hl => match us, hl with | [_], _ => rfl
  have g_entries_in := PySem.W.mg_of X G ad16
  have F_is_listing := fun_mk (st := s_is_listing) ld17 cd17 kd17
  have b_is_listing := F_is_listing.binds (ps := ["value"]) fun _ _ _ _ _ _ us hl => match us, hl with | [_], _ => rfl
  have g_is_listing := PySem.W.mg_of X G ad17
  have F_first_wrong_entry := fun_mk (st := s_first_wrong_entry) ld18 cd18 kd18
  have b_first_wrong_entry := F_first_wrong_entry.binds (ps := ["entries"]) fun _ _ _ _ _ _ us hl => match us, hl with | [_], _ => rfl
  have g_first_wrong_entry := PySem.W.mg_of X G ad18
  have F__law_due := fun_mk (st := s__law_due) ld19 cd19 kd19
  have b__law_due := F__law_due.binds (ps := ["_law_entries_here", "_law_one", "_law_other"]) fun _ _ _ _ _ _ us hl => match us, hl with | [_, _, _], _ => rfl
  have g__law_due := PySem.W.mg_of X G ad19
  have F__law_signs := fun_mk (st := s__law_signs) ld20 cd20 kd20
  have b__law_signs := F__law_signs.binds (ps := ["_law_one", "_law_other"]) fun _ _ _ _ _ _ us hl => match us, hl with | [_, _], _ => rfl
  have g__law_signs := PySem.W.mg_of X G ad20
  have F__law_inserted := fun_mk (st := s__law_inserted) ld21 cd21 kd21
  have b__law_inserted := F__law_inserted.binds (ps := ["_law_order", "_law_rows", "_law_places"]) fun _ _ _ _ _ _ us hl => match us, hl with | [_, _, _], _ => rfl
  have g__law_inserted := PySem.W.mg_of X G ad21
  have F__law_sorted := fun_mk (st := s__law_sorted) ld22 cd22 kd22
  have b__law_sorted := F__law_sorted.binds (ps := ["_law_entries_here", "_law_rows"]) fun _ _ _ _ _ _ us hl => match us, hl with | [_, _], _ => rfl
  have g__law_sorted := PySem.W.mg_of X G ad22
  have F__law_pairs_right := fun_mk (st := s__law_pairs_right) ld23 cd23 kd23
  have b__law_pairs_right := F__law_pairs_right.binds (ps := ["_law_order", "_law_entries_here", "_law_rows"]) fun _ _ _ _ _ _ us hl => match us, hl with | [_, _, _], _ => rfl
  have g__law_pairs_right := PySem.W.mg_of X G ad23
  have F__law_right := fun_mk (st := s__law_right) ld24 cd24 kd24
  have b__law_right := F__law_right.binds (ps := ["_law_pot_here"]) fun _ _ _ _ _ _ us hl => match us, hl with | [_], _ => rfl
  have g__law_right := PySem.W.mg_of X G ad24
  have F_law := fun_mk (st := s_law) ld25 cd25 kd25
  have b_law := F_law.binds (ps := ["_law_script"]) fun _ _ _ _ _ _ us hl => match us, hl with | [_], _ => rfl
  have g_law := PySem.W.mg_of X G ad25
  have F_sign := fun_mk (st := s_Order_sign) lm_sign cm_sign km_sign
  have b_sign := F_sign.binds (ps := ["self", "signs"]) fun _ _ _ _ _ _ us hl => match us, hl with | [_, _], _ => rfl
  have M_sign : Meth K C "sign" fm_sign := ⟨am_sign, im_sign, km_sign⟩
  have F_backwards := fun_mk (st := s_Order_backwards) lm_backwards cm_backwards km_backwards
  have b_backwards := F_backwards.binds (ps := ["self"]) fun _ _ _ _ _ _ us hl => match us, hl with | [_], _ => rfl
  have M_backwards : Meth K C "backwards" fm_backwards := ⟨am_backwards, im_backwards, km_backwards⟩
  have F_then := fun_mk (st := s_Order_then) lm_then cm_then km_then
  have b_then := F_then.binds (ps := ["self", "other"]) fun _ _ _ _ _ _ us hl => match us, hl with | [_, _], _ => rfl
  have M_then : Meth K C "then" fm_then := ⟨am_then, im_then, km_then⟩
  have F_entries := fun_mk (st := s_Order_entries) lp_entries cp_entries kp_entries
  have b_entries := F_entries.binds (ps := ["self"]) fun _ _ _ _ _ _ us hl => match us, hl with | [_], _ => rfl
  have PO_entries : PropOf K C "entries" qp_entries fp_entries := ⟨ap_entries, gp_entries, tp_entries, _, rp_entries⟩
  have F_columns := fun_mk (st := s_Order_columns) lp_columns cp_columns kp_columns
  have b_columns := F_columns.binds (ps := ["self"]) fun _ _ _ _ _ _ us hl => match us, hl with | [_], _ => rfl
  have PO_columns : PropOf K C "columns" qp_columns fp_columns := ⟨ap_columns, gp_columns, tp_columns, _, rp_columns⟩
  have FDI : FunD K "__init__" "Order.__init__" (defArgs s_Order___init__) (defBody s_Order___init__) (defScope s_Order___init__) [V.ref E0] [] fI (PySem.W.fnOf "__init__" "Order.__init__" (defArgs s_Order___init__) (defBody s_Order___init__) (defScope s_Order___init__) (.ref TI) kVI dcI pmI anI cvI ctI) := ⟨⟨_, _, _, _, _, _, _, _, _, _, rfl, lI, cI, .inr ⟨by simp, TI, _, [.ref E0], nT, rfl, lT, rfl, .cons rfl .nil⟩, .inl rfl⟩, kI⟩
  have b_Order___init__ : Binds K (PySem.W.fnOf "__init__" "Order.__init__" (defArgs s_Order___init__) (defBody s_Order___init__) (defScope s_Order___init__) (.ref TI) kVI dcI pmI anI cvI ctI) ["self", "entries"] [] := by
    obtain ⟨ds, v, b⟩ := FDI.binds1 (ps := ["self", "entries"]) 2 1 (by simp) rfl fun T kV doc pm an cdv ct us its l1 l2 => match us, its, l1, l2 with | [_, _], [_], _, _ => ⟨_, rfl, rfl⟩
    cases v
    exact b
  have M_Order : Mk K C fI := ⟨mk, aI, iI, kc⟩
  have T : Blt mg := ⟨PySem.W.mg_none_of X G z_len, PySem.W.mg_none_of X G z_max, PySem.W.mg_none_of X G z_min, PySem.W.mg_none_of X G z_abs, PySem.W.mg_none_of X G z_int, PySem.W.mg_none_of X G z_divmod, PySem.W.mg_none_of X G z_range, PySem.W.mg_none_of X G z_isinstance, PySem.W.mg_none_of X G z_repr, PySem.W.mg_none_of X G z_all, PySem.W.mg_none_of X G z_bool, PySem.W.mg_none_of X G z_str, PySem.W.mg_none_of X G z_set, PySem.W.mg_none_of X G z_sorted, PySem.W.mg_none_of X G z_enumerate, PySem.W.mg_none_of X G z_zip, PySem.W.mg_none_of X G z_reversed, PySem.W.mg_none_of X G z_dict, PySem.W.mg_none_of X G z_list, PySem.W.mg_none_of X G z_tuple⟩
  have U : Cst mg := ⟨⟨tL, PySem.W.mg_of X G zL⟩, ⟨tM, PySem.W.mg_of X G zM⟩⟩
  have U2 : Cst2 mg := ⟨⟨tN, PySem.W.mg_of X G zN⟩, ⟨tC, PySem.W.mg_of X G zC⟩⟩
  have O : OrdC K mg C := ⟨⟨pg, hd, po, sa⟩, nE, PySem.W.mg_of X G aC⟩
  have I : OrdI K C := ⟨kL, kT, i1, i2, i3, i4⟩
  refine ⟨PySem.W.fnOf "law" "law" (defArgs s_law) (defBody s_law) (defScope s_law) .none kVd25 dcd25 pmd25 and25 cvd25 ctd25, fun s v => .of_eq rfl, fun base _ _ => ?_⟩
  have G_entries : FnOk l.prog w K mg base CX0 1 fp_entries _ ["self"] (getSp C "_entries") := fn_getter lp_entries cp_entries sc_Order_entries rfl rfl O.cl O.nE
  have G__law_word := ok_word (P := l.prog) (w := w) (base := base) F__law_word T F__law_draw b__law_draw g__law_draw
  have G__law_column := ok_column (P := l.prog) (w := w) (base := base) F__law_column T F__law_draw b__law_draw g__law_draw F__law_word b__law_word g__law_word
  have G__law_names := ok_names (P := l.prog) (w := w) (base := base) F__law_names T F__law_draw b__law_draw g__law_draw F__law_word b__law_word g__law_word F__law_column b__law_column g__law_column
  have G__law_over := ok_over (P := l.prog) (w := w) (base := base) F__law_over T F__law_draw b__law_draw g__law_draw
  have G__law_value := ok_lvalue (P := l.prog) (w := w) (base := base) F__law_value T F__law_draw b__law_draw g__law_draw
  have G_is_value := ok_value (P := l.prog) (w := w) (base := base) F_is_value T U F_is_integer b_is_integer g_is_integer F_is_letters b_is_letters g_is_letters
  have G_sign_of := ok_sign (P := l.prog) (w := w) (base := base) F_sign_of F_is_value b_is_value g_is_value G_is_value F_kind_of_value b_kind_of_value g_kind_of_value T F_sign_between b_sign_between g_sign_between
  have G_is_order_column := ok_iscol (P := l.prog) (w := w) (base := base) F_is_order_column T U U2 F_is_letters b_is_letters g_is_letters
  have G_is_entry := ok_isent (P := l.prog) (w := w) (base := base) F_is_entry T F_is_order_column b_is_order_column g_is_order_column G_is_order_column
  have G_sign := ok_osign (P := l.prog) (w := w) (base := base) F_sign O F_sign_by b_sign_by g_sign_by
  have G_entries_in := ok_ein (P := l.prog) (w := w) (base := base) F_entries_in T O I PO_entries G_entries b_entries
  have G_first_wrong_entry := ok_wrong (P := l.prog) (w := w) (base := base) F_first_wrong_entry T F_is_entry b_is_entry g_is_entry G_is_entry
  have G_Order___init__ := ok_oinit (P := l.prog) (w := w) (base := base) FDI T O F_entries_in b_entries_in g_entries_in G_entries_in F_is_listing b_is_listing g_is_listing F_first_wrong_entry b_first_wrong_entry g_first_wrong_entry G_first_wrong_entry
  have G_backwards := ok_back (P := l.prog) (w := w) (base := base) F_backwards T O M_Order b_Order___init__ G_Order___init__
  have G_then := ok_then (P := l.prog) (w := w) (base := base) F_then T O M_Order b_Order___init__ G_Order___init__ PO_entries G_entries b_entries PO_columns F_columns b_columns
  have G__law_signs := ok_signs (P := l.prog) (w := w) (base := base) F__law_signs T F_sign_of b_sign_of g_sign_of G_sign_of
  have G__law_inserted := ok_ins (P := l.prog) (w := w) (base := base) F__law_inserted T O M_sign b_sign G_sign F__law_signs b__law_signs g__law_signs G__law_signs
  have G__law_pairs_right := ok_pairs (P := l.prog) (w := w) (base := base) F__law_pairs_right T O M_sign b_sign G_sign F__law_signs b__law_signs g__law_signs G__law_signs F__law_due b__law_due g__law_due M_backwards b_backwards G_backwards
  have G__law_right := ok_right (P := l.prog) (w := w) (base := base) F__law_right T O F__law_draw b__law_draw g__law_draw F__law_names b__law_names g__law_names G__law_names F__law_value b__law_value g__law_value G__law_value F__law_over b__law_over g__law_over G__law_over M_Order b_Order___init__ G_Order___init__ F__law_pairs_right b__law_pairs_right g__law_pairs_right G__law_pairs_right F__law_inserted b__law_inserted g__law_inserted G__law_inserted F__law_sorted b__law_sorted g__law_sorted M_then b_then G_then PO_entries G_entries b_entries
  exact ok_law F_law T F__law_pot b__law_pot g__law_pot F__law_right b__law_right g__law_right G__law_right
end K18

set_option Elab.async false
set_option maxRecDepth 100000
set_option maxHeartbeats 0
section
open PySem PySem.W PyProof.Rows
open_top head_k18 for PySem.Challenge.rw_pairsigns_k18_whole_orders_sort_rows
end
open PySem PySem.W PyProof.Rows
set_option maxRecDepth 100000 in
set_option maxHeartbeats 0 in
theorem PySem.Challenge.cw_pairsigns_k18_whole_orders_sort_rows_holds : PySem.Challenge.rw_pairsigns_k18_whole_orders_sort_rows.Holds :=
  head_k18 (by
  k_fill
  refine PSG.walkG (l := PySem.Challenge.rw_pairsigns_k18_whole_orders_sort_rows) (m := 63) (n := 10) (x := "_law_script") (CT := fun _ => L2.CX0) (sp := fun w => K18.spLaw _) rfl (by decide) rfl ⟨rfl, by decide, by decide⟩ (fun w h Y => PySem.W.kIn_of Y) ?F (fun _ _ a ns hl _ hS => ⟨a, ns, rfl, hS, hl, fun _ => rfl⟩) (fun _ _ _ _ _ h => h)
  case F =>
    intro w mg fa h KX G hmg
    refine' K18.all_mk KX G hmg ?aC ?aI ?iI ?lI ?cI ?kI ?am_sign ?im_sign ?lm_sign ?cm_sign ?km_sign ?am_backwards ?im_backwards ?lm_backwards ?cm_backwards ?km_backwards ?am_then ?im_then ?lm_then ?cm_then ?km_then ?lT ?ap_entries ?gp_entries ?tp_entries ?rp_entries ?lp_entries ?cp_entries ?kp_entries ?ap_columns ?gp_columns ?tp_columns ?rp_columns ?lp_columns ?cp_columns ?kp_columns ?pg ?hd ?po ?sa ?mk ?kc ?nE ?kL ?kT ?i1 ?i2 ?i3 ?i4 ?ad0 ?ld0 ?cd0 ?kd0 ?ad1 ?ld1 ?cd1 ?kd1 ?ad2 ?ld2 ?cd2 ?kd2 ?ad3 ?ld3 ?cd3 ?kd3 ?ad4 ?ld4 ?cd4 ?kd4 ?ad5 ?ld5 ?cd5 ?kd5 ?ad6 ?ld6 ?cd6 ?kd6 ?ad7 ?ld7 ?cd7 ?kd7 ?ad8 ?ld8 ?cd8 ?kd8 ?ad9 ?ld9 ?cd9 ?kd9 ?ad10 ?ld10 ?cd10 ?kd10 ?ad11 ?ld11 ?cd11 ?kd11 ?ad12 ?ld12 ?cd12 ?kd12 ?ad13 ?ld13 ?cd13 ?kd13 ?ad14 ?ld14 ?cd14 ?kd14 ?ad15 ?ld15 ?cd15 ?kd15 ?ad16 ?ld16 ?cd16 ?kd16 ?ad17 ?ld17 ?cd17 ?kd17 ?ad18 ?ld18 ?cd18 ?kd18 ?ad19 ?ld19 ?cd19 ?kd19 ?ad20 ?ld20 ?cd20 ?kd20 ?ad21 ?ld21 ?cd21 ?kd21 ?ad22 ?ld22 ?cd22 ?kd22 ?ad23 ?ld23 ?cd23 ?kd23 ?ad24 ?ld24 ?cd24 ?kd24 ?ad25 ?ld25 ?cd25 ?kd25 ?z_len ?z_max ?z_min ?z_abs ?z_int ?z_divmod ?z_range ?z_isinstance ?z_repr ?z_all ?z_bool ?z_str ?z_set ?z_sorted ?z_enumerate ?z_zip ?z_reversed ?z_dict ?z_list ?z_tuple ?zL ?zM ?zN ?zC
    (case aC => k_is)
    (case aI => k_is)
    (case iI => k_is)
    (case lI => k_is)
    (case cI => k_is)
    (case kI => k_is)
    (case am_sign => k_is)
    (case im_sign => k_is)
    (case lm_sign => k_is)
    (case cm_sign => k_is)
    (case km_sign => k_is)
    (case am_backwards => k_is)
    (case im_backwards => k_is)
    (case lm_backwards => k_is)
    (case cm_backwards => k_is)
    (case km_backwards => k_is)
    (case am_then => k_is)
    (case im_then => k_is)
    (case lm_then => k_is)
    (case cm_then => k_is)
    (case km_then => k_is)
    (case lT => k_is)
    (case ap_entries => k_is)
    (case gp_entries => k_is)
    (case tp_entries => k_is)
    (case rp_entries => k_is)
    (case lp_entries => k_is)
    (case cp_entries => k_is)
    (case kp_entries => k_is)
    (case ap_columns => k_is)
    (case gp_columns => k_is)
    (case tp_columns => k_is)
    (case rp_columns => k_is)
    (case lp_columns => k_is)
    (case cp_columns => k_is)
    (case kp_columns => k_is)
    (case pg => k_is)
    (case hd => k_is)
    (case po => k_is)
    (case sa => k_is)
    (case mk => k_is)
    (case kc => k_is)
    (case nE => k_is)
    (case kL => kernel_rfl)
    (case kT => kernel_rfl)
    (case i1 => k_is)
    (case i2 => k_is)
    (case i3 => k_is)
    (case i4 => k_is)
    (case ad0 => k_is)
    (case ld0 => k_is)
    (case cd0 => k_is)
    (case kd0 => k_is)
    (case ad1 => k_is)
    (case ld1 => k_is)
    (case cd1 => k_is)
    (case kd1 => k_is)
    (case ad2 => k_is)
    (case ld2 => k_is)
    (case cd2 => k_is)
    (case kd2 => k_is)
    (case ad3 => k_is)
    (case ld3 => k_is)
    (case cd3 => k_is)
    (case kd3 => k_is)
    (case ad4 => k_is)
    (case ld4 => k_is)
    (case cd4 => k_is)
    (case kd4 => k_is)
    (case ad5 => k_is)
    (case ld5 => k_is)
    (case cd5 => k_is)
    (case kd5 => k_is)
    (case ad6 => k_is)
    (case ld6 => k_is)
    (case cd6 => k_is)
    (case kd6 => k_is)
    (case ad7 => k_is)
    (case ld7 => k_is)
    (case cd7 => k_is)
    (case kd7 => k_is)
    (case ad8 => k_is)
    (case ld8 => k_is)
    (case cd8 => k_is)
    (case kd8 => k_is)
    (case ad9 => k_is)
    (case ld9 => k_is)
    (case cd9 => k_is)
    (case kd9 => k_is)
    (case ad10 => k_is)
    (case ld10 => k_is)
    (case cd10 => k_is)
    (case kd10 => k_is)
    (case ad11 => k_is)
    (case ld11 => k_is)
    (case cd11 => k_is)
    (case kd11 => k_is)
    (case ad12 => k_is)
    (case ld12 => k_is)
    (case cd12 => k_is)
    (case kd12 => k_is)
    (case ad13 => k_is)
    (case ld13 => k_is)
    (case cd13 => k_is)
    (case kd13 => k_is)
    (case ad14 => k_is)
    (case ld14 => k_is)
    (case cd14 => k_is)
    (case kd14 => k_is)
    (case ad15 => k_is)
    (case ld15 => k_is)
    (case cd15 => k_is)
    (case kd15 => k_is)
    (case ad16 => k_is)
    (case ld16 => k_is)
    (case cd16 => k_is)
    (case kd16 => k_is)
    (case ad17 => k_is)
    (case ld17 => k_is)
    (case cd17 => k_is)
    (case kd17 => k_is)
    (case ad18 => k_is)
    (case ld18 => k_is)
    (case cd18 => k_is)
    (case kd18 => k_is)
    (case ad19 => k_is)
    (case ld19 => k_is)
    (case cd19 => k_is)
    (case kd19 => k_is)
    (case ad20 => k_is)
    (case ld20 => k_is)
    (case cd20 => k_is)
    (case kd20 => k_is)
    (case ad21 => k_is)
    (case ld21 => k_is)
    (case cd21 => k_is)
    (case kd21 => k_is)
    (case ad22 => k_is)
    (case ld22 => k_is)
    (case cd22 => k_is)
    (case kd22 => k_is)
    (case ad23 => k_is)
    (case ld23 => k_is)
    (case cd23 => k_is)
    (case kd23 => k_is)
    (case ad24 => k_is)
    (case ld24 => k_is)
    (case cd24 => k_is)
    (case kd24 => k_is)
    (case ad25 => k_is)
    (case ld25 => k_is)
    (case cd25 => k_is)
    (case kd25 => k_is)
    (case z_len => k_is)
    (case z_max => k_is)
    (case z_min => k_is)
    (case z_abs => k_is)
    (case z_int => k_is)
    (case z_divmod => k_is)
    (case z_range => k_is)
    (case z_isinstance => k_is)
    (case z_repr => k_is)
    (case z_all => k_is)
    (case z_bool => k_is)
    (case z_str => k_is)
    (case z_set => k_is)
    (case z_sorted => k_is)
    (case z_enumerate => k_is)
    (case z_zip => k_is)
    (case z_reversed => k_is)
    (case z_dict => k_is)
    (case z_list => k_is)
    (case z_tuple => k_is)
    (case zL => k_is)
    (case zM => k_is)
    (case zN => k_is)
    (case zC => k_is))
