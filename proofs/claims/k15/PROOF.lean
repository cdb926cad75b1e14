import PyProof.Rows.All
import Wide.All
import OpenK.AllK
import Wide.FinOn
import HandS.Base
import HandS.Call
import HandS.List
import HandS.Comp
import HandS.Dict
import HandS.Iter
import HandS.Text
import HandS.Ends
import HandS.Exc
import HandS.ExcOwn
import HandS.TryOnly
import HandS.TryMany
import HandS.ExcInit
import HandS.ExcField
import HandS.ExcIs
import HandS.IsInst
import HandS.WideBits
import HandS.ForMost
import HandS.WordsExc
import KE.KTryMore
import KE.KExcHand
import KE.KExcInit
import HandS.Small
import HandS.SetFor
import HandS.Zip
import PyProof.Draws
import PyProof.EnumMake
import HandS.HotCalls
import HandS.ExcInitHot
import HandS.Replace
import PyProof.TupleCall
import PyProof.CollectStr
import HandS.SetKeys
import HandS.Strs
import HandS.More
import HandS.SetBool
import HandS.DictComp
import HandS.Codes
import HandS.NoneIn
import PySem.Challenge.RW_pairsigns_k15_whole_ranks_and_fitting_si
set_option linter.all false
set_option Elab.async false
set_option linter.all false
set_option maxRecDepth 100000
set_option maxHeartbeats 4000000
namespace PSG
open PySem PySem.Spec PyProof.Rows L2
/-! ### promises of defs that know that no repr is under way -/
structure FnG (P : Program) (w : World) (K : PySem.W.Frag) (mg : Str → Option Value) (base : Heap) (CT : CXT) (n : Nat) (at_ : Addr) (fd : FuncData) (ps : List Str) (sp : Sp) : Prop where
  many : ∀ vs H Q E, sp vs H Q E → vs.length = ps.length
  goes : ∀ (B : Around) (up : List Env) (s : Shared) (H : Hp) (ar : Args) (us : List Value) (vs : List V) (Q : VK) (E : XK),
    Room n B → B.guards = some [] → Env0 P w K mg base B up s H →
    BindsTo s fd ar (ps.zip us) → Vals vs us → sp vs H Q E →
    codeAny (model P w) B (.call (.ref at_) ar) (CR CT up P w H s Q E) s
section
variable {P : Program} {w : World} {K : PySem.W.Frag} {mg : Str → Option Value} {base : Heap} {CT : CXT}
theorem FnG.of {n : Nat} {at_ : Addr} {fd : FuncData} {ps : List Str} {sp : Sp} (F : FnOk P w K mg base CT n at_ fd ps sp) : FnG P w K mg base CT n at_ fd ps sp :=
  ⟨F.len, fun B up s H ar us vs Q E r _ => F.run B up s H ar us vs Q E r⟩
theorem fnG {n : Nat} {at_ : Addr} {nm ql : Str} {pa : Arguments} {bd : List Stmt} {sc : Scope} {dv kv dc pm cv ct oc : Value} {an od : Option Addr}
    {sl : Array (Option Value)} {N ps : List Str} {sp : Sp}
    (found : K.lookup at_ = some ⟨oc, od, .func (PySem.W.fnOf nm ql pa bd sc dv kv dc pm an cv ct), sl⟩)
    (code : PySem.W.codeIn K cv ql = true) (S : FnScope N ps sc) (many : ∀ vs H Q E, sp vs H Q E → vs.length = ps.length)
    (main : ∀ (B : Around) (up : List Env) (s : Shared) (H : Hp) (vs : List V) (Q : VK) (E : XK),
      Room n (B.deeper (envOfC ql sc s.heap.objs.size at_ cv)) → B.guards = some [] → sp vs H Q E →
      ∃ t, PSs (cxOf CT P w K mg base N ql sc at_ cv B up s H E) bd t ∧ t { nx := fun _ G => Q .non G, rt := Q } (start N vs) H) :
    FnG P w K mg base CT (n + 1) at_ (PySem.W.fnOf nm ql pa bd sc dv kv dc pm an cv ct) ps sp where
  many := many
  goes := by
    intro B up s H ar us vs Q E room gd en bi va ho
    have keepB : ∀ b o, base.get? b = some o → s.heap.get? b = some o := fun b o z => (en.bs b o z).1
    have atK := en.mod.kin.keeps keepB
    refine codeAny_call_function room.depth (atK _ _ found) rfl S.co S.gen rfl (PySem.W.codeRec_of atK code) (bi _ _ _ _ ?_)
    refine wpAny_newFunctionEnv_cells S.kind (fun y hy => ?_) fun env he t1 x => ?_
    · obtain ⟨n, v⟩ := y
      cases S.par n (List.of_mem_zip hy).1 with
      | inl z => exact .inl z
      | inr z => exact .inr ⟨z, PySem.W.cellsFrom_some _ _ _ (.inl z)⟩
    · cases he
      refine ⟨(en.mod.nolimit.keeps keepB).keeps x.toInCall.keep, codeAny_func ?_⟩
      obtain ⟨t, der, rd⟩ := main B up s H vs Q E (room.deeper _) gd ho
      have J := inv_start (CX := CT) (E := E) S room.hd en (many _ _ _ _ ho) va x
      refine wpAny_mono (der.run [] t1 _ H _ J rd) ?_ fun _ _ z => z
      intro fl t2 z
      cases fl with
      | next =>
        obtain ⟨_, G, J2, q⟩ := z
        exact ⟨V.non, G, J2.os, J2.bare, J2.base, J2.hok, rfl, q⟩
      | ret u =>
        obtain ⟨v, _, G, J2, rel, q⟩ := z
        exact ⟨v, G, J2.os, J2.bare, J2.base, J2.hok, rel, q⟩
      | brk => exact (show False from z.choose_spec.choose_spec.2).elim
      | cont => exact (show False from z.choose_spec.choose_spec.2).elim
end
section
variable {X : Cx} {CT : CXT} {n : Nat} {at_ : Addr} {fd : FuncData} {ps : List Str} {sp : Sp} {dvs : List V} {ds : List Value} {E : XK} {x : Str} {p pos : Pos} {e : Expr} {es : List Expr} {t : TA}
theorem run_g {pins : List (Addr × Obj)} {σ : L2.St} {H : Hp} {s : Shared} {Q : VK} {us : List Value} {vs : List V}
    (F : FnG X.prog X.w X.K X.mg X.base CT n at_ fd ps sp) (room : Room n X.A) (gd : X.A.guards = some []) (bi : Binds X.K fd ps ds) (dv : Vals dvs ds) (pass : Passes CT X E)
    (I : Inv X pins σ H s) (va : Vals vs us) (ho : sp (vs ++ dvs) H Q E) : wpAny (model X.prog X.w) X.A (call (.ref at_) us) (EP X pins σ Q) X.xe s := by
  have va2 := va.append dv
  have many : (us ++ ds).length = ps.length := va2.length.symm.trans (F.many _ _ _ _ ho)
  refine wpAny_call (codeAny_mono (F.goes X.A X.stack s H ⟨us, []⟩ (us ++ ds) (vs ++ dvs) Q E room gd I.env0 (bi s us I.kIn many) va2 ho) ?_)
  intro r t2 z
  match r, z with
  | .error er, z => exact pass pins σ H s er t2 I z
  | .ok (.ret u), z => exact I.after z
theorem pe_callG (F : FnG X.prog X.w X.K X.mg X.base CT n at_ fd ps sp) (room : Room n X.A) (gd : X.A.guards = some []) (hg : Gl X x) (hm : X.mg x = some (.ref at_)) (kp : PySem.W.keepIn X.K (.ref at_) = true)
    (bi : Binds X.K fd ps ds) (dv : Vals dvs ds) (pass : Passes CT X E) (ha : PA X (e :: es) t) (nd : (x == ("__debug__" : Str)) = false := by decide)
    (se : starEach (e :: es) X.env = (false, eval e X.env) :: starEach es X.env := by rfl) (sn : (backTo pos (starEach es X.env)).any (·.1) = false := by rfl) :
    PE X (.Call (.Name x p) (e :: es) [] pos) (tCall sp dvs E t) where
  run := fun pins s σ H Q I ho => wpAny_Call_Name_kw (ld_glob I hg hm (PySem.W.callWith_K (h₀ := X.base) I.ok.mod.kin kp
    (thn (ha.run pos pins s σ H _ I ho) fun us s1 ⟨vs, H1, I1, r, q⟩ => ⟨I1.kIn, run_g F room gd bi dv pass I1 r q⟩) se sn) nd)
end
end PSG

set_option Elab.async false
set_option linter.all false
set_option maxRecDepth 100000
set_option maxHeartbeats 4000000
namespace PSG
open PySem PySem.Spec L2
open PyProof.Rows (IntsAre AllBare)
/-! ### data with flat dicts, and repr -/
/-- a key as data -/
def keyD : Key → PyData
  | .inl i => .int i
  | .inr x => .str x
/-- a value that is no object, as data -/
def flatD : V → Option PyData
  | .non => some .none
  | .bl b => some (.bool b)
  | .int i => some (.int i)
  | .str x => some (.str x)
  | _ => none
mutual
/-- a value that is data, all of it tracked -/
inductive Dt (far : Bool) (H : Hp) : V → PyData → Prop
  | non : Dt far H .non .none
  | bl (b : Bool) : Dt far H (.bl b) (.bool b)
  | int (i : Int) : Dt far H (.int i) (.int i)
  | str (x : Str) : Dt far H (.str x) (.str x)
  | lst {a : Addr} {xs : List V} {ds : List PyData} : H a = some (.lst xs) → (far = true → a ≠ sysModules) → DtAll far H xs ds → Dt far H (.ref a) (.list ds)
  | tup {a : Addr} {xs : List V} {ds : List PyData} : H a = some (.tup xs) → DtAll far H xs ds → Dt far H (.ref a) (.tuple ds)
  | dict {a : Addr} {kvs : List (Key × V)} {kds : List (Key × PyData)} : H a = some (.dK kvs) → Paired (fun p q => p.1 = q.1 ∧ flatD p.2 = some q.2) kvs kds →
      Dt far H (.ref a) (.dict (kds.map fun q => (keyD q.1, q.2)))
inductive DtAll (far : Bool) (H : Hp) : List V → List PyData → Prop
  | nil : DtAll far H [] []
  | cons {v : V} {vs : List V} {d : PyData} {ds : List PyData} : Dt far H v d → DtAll far H vs ds → DtAll far H (v :: vs) (d :: ds)
end
mutual
def hasList : PyData → Bool
  | .list _ => true
  | .tuple xs => hasListAll xs
  | _ => false
def hasListAll : List PyData → Bool
  | [] => false
  | x :: xs => hasList x || hasListAll xs
end
theorem flat_reads {h : Heap} {v : V} {u : Value} {d : PyData} (e : flatD v = some d) (r : RelV v u) : Reads h u d [] := by
  cases v with
  | non => cases e; cases r; exact .none
  | bl b => cases e; cases r; exact .bool b
  | int i => cases e; obtain ⟨t, rfl⟩ := r; exact .int i t
  | str x => cases e; obtain ⟨t, rfl⟩ := r; exact .str x t
  | byt _ => cases e
  | flt _ => cases e
  | ref _ => cases e
  | ty _ => cases e
theorem key_reads {h : Heap} {k : Key} {u : Value} (e : keyIs k u = true) : Reads h u (keyD k) [] := by
  rcases keyIs_shape e with ⟨i, t, rfl, rfl⟩ | ⟨x, t, rfl, rfl⟩
  · exact .int i t
  · exact .str x t
theorem dict_reads {P : Program} {w : World} {h : Heap} : ∀ {kvs : List (Key × V)} {kds : List (Key × PyData)} {vs : List (Key × Value)} {es : List DictEntry},
    Paired (fun p q => p.1 = q.1 ∧ flatD p.2 = some q.2) kvs kds → KV kvs vs → Pairs (mixKind P w) es vs →
    ReadsAll h (es.map (·.key)) ((kds.map fun q => (keyD q.1, q.2)).map (·.1)) [] ∧ ReadsAll h (es.map (·.val)) ((kds.map fun q => (keyD q.1, q.2)).map (·.2)) []
  | _, _, _, _, .nil, .nil, .nil => ⟨.nil, .nil⟩
  | _, _, _, _, .cons ⟨e1, f⟩ t1, .cons ⟨e2, r⟩ t2, .cons k v t3 => by
    obtain ⟨i1, i2⟩ := dict_reads (h := h) t1 t2 t3
    have k' : keyIs _ _ = true := k
    rw [← e2, e1] at k'
    refine ⟨ReadsAll.cons (as := []) (key_reads k') i1, ReadsAll.cons (as := []) ?_ i2⟩
    dsimp only
    rw [v]
    exact flat_reads f r
section
variable {X : Cx} {pins : List (Addr × Obj)} {σ : L2.St} {H : Hp} {s : Shared}
mutual
/-- such data is read; where it has no list, sys.modules is not within -/
theorem Dt.reads {far : Bool} (I : Inv X pins σ H s) : ∀ {d : PyData} {v : V} {u : Value}, Dt far H v d → RelV v u → ∃ as, Reads s.heap u d as ∧ ((far = true ∨ hasList d = false) → sysModules ∉ as)
  | _, _, _, .non, r => by cases r; exact ⟨_, .none, fun _ m => nomatch m⟩
  | _, _, _, .bl b, r => by cases r; exact ⟨_, .bool b, fun _ m => nomatch m⟩
  | _, _, _, .int i, r => by obtain ⟨t, rfl⟩ := r; exact ⟨_, .int i t, fun _ m => nomatch m⟩
  | _, _, _, .str x, r => by obtain ⟨t, rfl⟩ := r; exact ⟨_, .str x t, fun _ m => nomatch m⟩
  | _, _, _, .lst (a := a) (xs := xs) e fr t, r => by
    cases r
    obtain ⟨_, its, n, rv, ho⟩ := I.hok a (.lst xs) e
    obtain ⟨as, z, n1⟩ := DtAll.reads I t rv
    refine ⟨_, Reads.list ho rfl rfl z, fun no m => ?_⟩
    rcases no with no | no
    · rcases List.mem_cons.mp m with m | m
      · exact fr no m.symm
      · exact n1 (.inl no) m
    · simp [hasList] at no
  | _, _, _, .tup (a := a) (xs := xs) e t, r => by
    cases r
    obtain ⟨_, its, rv, o, ho, hc, n, hd⟩ := I.hok a (.tup xs) e
    obtain ⟨as, z, no⟩ := DtAll.reads I t rv
    exact ⟨_, Reads.tuple ho hc hd z, fun q => no (by simpa [hasList] using q)⟩
  | _, _, _, .dict (a := a) (kvs := kvs) e pr, r => by
    cases r
    obtain ⟨_, low, vs, kv, o, es, ep, ho, hx, hd, _, pa, _⟩ := dk_of I.hok e
    obtain ⟨z1, z2⟩ := dict_reads (h := s.heap) pr kv pa
    refine ⟨_, Reads.dict ho hx.1 hd z1 z2, fun _ m => ?_⟩
    rw [List.mem_append] at m
    rcases m with m | m
    · rcases List.mem_cons.mp m with m | m
      · rw [← m] at low
        simp at low
      · cases m
    · cases m
theorem DtAll.reads {far : Bool} (I : Inv X pins σ H s) : ∀ {ds : List PyData} {vs : List V} {us : List Value}, DtAll far H vs ds → Vals vs us → ∃ as, ReadsAll s.heap us ds as ∧ ((far = true ∨ hasListAll ds = false) → sysModules ∉ as)
  | _, _, _, .nil, r => by cases r; exact ⟨_, .nil, fun _ m => nomatch m⟩
  | _, _, _, .cons h t, r => by
    cases r with
    | cons r1 r2 =>
      obtain ⟨as, z1, n1⟩ := Dt.reads I h r1
      obtain ⟨bs, z2, n2⟩ := DtAll.reads I t r2
      refine ⟨_, .cons z1 z2, fun no m => ?_⟩
      simp only [hasListAll, Bool.or_eq_false_iff] at no
      rcases List.mem_append.mp m with m | m
      · exact n1 (no.imp id And.left) m
      · exact n2 (no.imp id And.right) m
end
end
/-- repr(x) of data -/
def rRep : List V → Hp → VK → Prop := fun xs H Q => ∃ x d far, xs = [x] ∧ Dt far H x d ∧ (d.hasDict = true → far = true ∨ hasList d = false) ∧ d.showable = true ∧ d.shown.length ≤ sizeLine ∧ d.depth ≤ 60 ∧ Q (.str d.shown) H
section
variable {X : Cx}
theorem call_repr {n : Nat} (room : Room n X.A) (gd : X.A.guards = some []) : CallR X (.builtin "repr") rRep := by
  intro pins s σ H xs us Q I r ho
  obtain ⟨x, d, far, rfl, dq, cl, sh, sz, dp, q⟩ := ho
  cases r with
  | @cons _ u _ ws rx rr =>
    cases rr
    obtain ⟨as, rd, no1⟩ := dq.reads I rx
    have nosys : d.hasDict = true → sysModules ∉ as := fun z => no1 (cl z)
    have un := room.un
    cases rd with
    | none =>
      exact P.repr_of_none ⟨.str _, H, I.tok _, ⟨_, rfl⟩, by simpa only [PyData.shown] using q⟩
    | bool b =>
      refine P.repr_of_bool ⟨.str _, H, I.tok _, ⟨_, rfl⟩, ?_⟩
      simp only [PyData.shown] at q
      cases b
      · exact q
      · exact q
    | int i t =>
      exact P.repr_of_int (by simpa [PyData.showable] using sh) ⟨.str _, H, I.tok _, ⟨_, rfl⟩, by simpa only [PyData.shown] using q⟩
    | str z t =>
      simp only [PyData.shown] at q sz
      exact P.repr_of_str ⟨.str _, H, I.tok _, ⟨_, rfl⟩, q⟩ sz
    | list h1 h2 h3 h4 =>
      exact repr_of_reads' (Reads.list h1 h2 h3 h4) sh nosys gd (by omega) (fun _ _ z => z) (fun h' u tk k => ⟨.str _, H, I.kept k, ⟨_, rfl⟩, q⟩) sz
    | tuple h1 h2 h3 h4 =>
      exact repr_of_reads' (Reads.tuple h1 h2 h3 h4) sh nosys gd (by omega) (fun _ _ z => z) (fun h' u tk k => ⟨.str _, H, I.kept k, ⟨_, rfl⟩, q⟩) sz
    | dict h1 h2 h3 h4 h5 =>
      exact repr_of_reads' (Reads.dict h1 h2 h3 h4 h5) sh nosys gd (by omega) (fun _ _ z => z) (fun h' u tk k => ⟨.str _, H, I.kept k, ⟨_, rfl⟩, q⟩) sz
end
/-! ### the law's own end -/
theorem hidT_ns {h : Heap} {H : Hp} {b : Addr} {m : Str → Option Value} (z : h.Ns b m) (free : ∀ (o : Obj) (es : Array DictEntry) (ep : Nat), h.get? b = some o → o.data = .dict es ep → H b = none) : (hidT h H).Ns b m := by
  obtain ⟨o, es, ep, e, d, r⟩ := z
  exact ⟨o, es, ep, hidT_get e (free o es ep e d), d, r⟩
theorem lawG_call {P : Program} {w : World} {K : PySem.W.Frag} {mg mb : Str → Option Value} {CT : CXT} {n : Nat} {fa a : Addr} {fd : FuncData} {x : Str} {sp : Sp} {s₁ : Shared} {vs : List Value} {ns : List Int}
    (atK : K.In s₁.heap) (glob : s₁.heap.Ns mainGlobals mg) (blt : s₁.heap.Ns builtinsNs mb) (boot : ∀ x : Str, x ≠ "__name__" → mb x = bootBuiltins x) (lim : s₁.heap.NoLimit) (gens : s₁.gens = #[])
    (ob : s₁.heap.get? a = some { cls := .type "list", data := .seq vs.toArray }) (nums : IntsAre vs ns) (len : ns.length ≤ sizeLine) (room : Room n callerA)
    (F : ∀ base : Heap, K.In base → base.Ns mainGlobals mg → FnG P w K mg base CT n fa fd [x] sp) (bi : ∀ (s : Shared) (u : Value), BindsTo s fd ⟨[u], []⟩ [(x, u)])
    (ho : ∀ H : Hp, Only H → SqL K H a (ns.map V.int) → sp [.ref a] H (fun v _ => v = .bl true) fun _ _ _ => False)
    (none_out : ∀ H e s', CT [] H s₁ (fun _ _ _ => False) e s' → False) :
    codeAny (model P w) callerA (.call (.ref fa) ⟨[.ref a], []⟩) (fun r s' => r = .ok (.ret (.bool true)) ∧ OldK s₁.heap s'.heap ∧ s'.os = s₁.os ∧ AllBare s'.gens) s₁ := by
  have main : ∀ H : Hp, Only H → SqL K H a (ns.map V.int) → HOk P w H s₁.heap → (∀ b, b ≠ a → H b = none) → (K.lookup a = none ∨ H a = none) →
      codeAny (model P w) callerA (.call (.ref fa) ⟨[.ref a], []⟩) (fun r s' => r = .ok (.ret (.bool true)) ∧ OldK s₁.heap s'.heap ∧ s'.os = s₁.os ∧ AllBare s'.gens) s₁ := by
    intro H only sq hok off at_
    have free : ∀ (b : Addr) (o : Obj) (es : Array DictEntry) (ep : Nat), s₁.heap.get? b = some o → o.data = .dict es ep → H b = none := by
      intro b o es ep e d
      by_cases hb : b = a
      · rw [hb, ob] at e
        cases e
        cases d
      · exact off b hb
    have inB : K.In (hidT s₁.heap H) := by
      intro b o e
      refine hidT_get (atK b o e) ?_
      by_cases hb : b = a
      · rcases at_ with z | z
        · rw [hb, z] at e
          cases e
        · rw [hb]
          exact z
      · exact off b hb
    have nsB : (hidT s₁.heap H).Ns mainGlobals mg := hidT_ns glob (free _)
    obtain ⟨mc, l1, l2⟩ := lim
    have mod : L2.Mod K mg (hidT s₁.heap H) := ⟨inB, nsB, ⟨mb, hidT_ns blt (free _), boot⟩, ⟨mc, hidT_ns l1 (free _), l2⟩⟩
    have en : Env0 P w K mg (hidT s₁.heap H) callerA [] s₁ H :=
      ⟨rfl, mod, fun b o z => of_hidT z, Nat.le_of_eq (hidT_size _ _), trivial, fun b z => (List.not_mem_nil z).elim, hok, .of_eq gens⟩
    refine codeAny_mono ((F _ inB nsB).goes callerA [] s₁ H ⟨[.ref a], []⟩ [.ref a] [.ref a] _ _ room rfl en (bi s₁ (.ref a)) (.cons rfl .nil) (ho H only sq)) ?_
    intro r s' z
    match r, z with
    | .error er, z => exact (none_out H er s' z).elim
    | .ok (.ret u), z =>
      obtain ⟨v, G, os, bare, un, hok', rel, rfl⟩ := z
      cases rel
      refine ⟨rfl, OldK.of_keep fun b o e => ?_, os, bare⟩
      rcases only b with q | ⟨ob2, ys, q⟩
      · exact un.keep b o e q (fun z => List.not_mem_nil z) (fun z => List.not_mem_nil z)
      · have e1 := (hok b _ q).1
        have e2 := (hok' b _ (un.frzs b ob2 _ q)).1
        rw [e] at e1
        cases e1
        exact e2
  cases there : K.lookup a with
  | some o =>
    have e := (atK a o there).symm.trans ob
    cases e
    exact main (fun _ => none) (fun _ => .inl rfl) (.inr ⟨_, vs.toArray, _, there, rfl, rfl, rfl, by rw [List.size_toArray, nums.length]; exact len, by simpa using vals_ints nums⟩) (fun b u z => nomatch z) (fun _ _ => rfl) (.inr rfl)
  | none =>
    refine main (upd (fun _ => none) a (.frz { cls := .type "list", data := .seq vs.toArray } (.lst (ns.map V.int)))) (fun b => ?_) (.inl (.inr ⟨_, upd_same⟩)) (fun b u z => ?_) (fun b hb => upd_ne hb) (.inl there)
    · by_cases hb : b = a
      · rw [hb]
        exact .inr ⟨_, _, upd_same⟩
      · exact .inl (upd_ne hb)
    · by_cases hb : b = a
      · rw [hb, upd_same] at z
        cases z
        rw [hb]
        exact ⟨ob, by rw [List.length_map]; exact len, vs, _, vals_ints nums, ob⟩
      · rw [upd_ne hb] at z
        cases z
theorem walkG {l : PySem.W.OpenLaw} {m n : Nat} {q : Program} {loose : List Str} {XP : (Str → Option Value) → Heap → Prop} {YP : World → Heap → Prop} {d : DefRec} {K : Params → PySem.W.Frag} {CT : World → CXT} {sp : World → Sp} {x : Str}
    (most : l.most = some m) (fits : m ≤ sizeLine) (nodef : d.params.defaults = []) (room : Room n callerA) (inn : ∀ (w : World) (h : Heap), YP w h → (K w.params).In h)
    (F : ∀ (w : World) (mg : Str → Option Value) (fa : Addr) (h : Heap), (K w.params).In h → h.Ns mainGlobals mg → mg d.name = some (.ref fa) →
      ∃ fd : FuncData, (∀ (s : Shared) (u : Value), BindsTo s fd ⟨[u], []⟩ [(x, u)]) ∧ ∀ base : Heap, (K w.params).In base → base.Ns mainGlobals mg → FnG l.prog w (K w.params) mg base (CT w) n fa fd [x] (sp w))
    (ho : ∀ (w : World) (H : Hp) (a : Addr) (ns : List Int), ns.length ≤ m → Only H → SqL (K w.params) H a (ns.map V.int) → sp w [.ref a] H (fun v _ => v = .bl true) fun _ _ _ => False)
    (none_out : ∀ (w : World) (H : Hp) (s : Shared) (e : Value) (s' : Shared), CT w [] H s (fun _ _ _ => False) e s' → False) :
    PySem.W.WalkO q loose XP YP l.row.toRowW d [] (fun f vs => PySem.call f vs) := by
  refine Att.attach_call most nodef ?_
  intro w s₀ s₁ mg mb fa o pm cd doc a vs ns G Y _ _ _ isAt ob nums len gens
  obtain ⟨fd, bi, good⟩ := F w mg fa _ (inn w _ Y) G.T.g isAt
  exact lawG_call (inn w _ Y) G.T.g G.T.b G.T.builtins G.T.nolimit gens ob nums (Nat.le_trans len fits) room good bi (fun H h1 h2 => ho w H a ns len h1 h2) fun H e s' => none_out w H s₁ e s'
end PSG

set_option Elab.async false
set_option linter.all false
set_option maxRecDepth 100000
set_option maxHeartbeats 4000000
namespace PSG
open PySem PySem.Spec L2
open PyProof.Rows (IntsAre AllBare)
/-! ### try with several clauses, names or pairs of names as their classes, with or without «as» -/
theorem upToSlots_more {h h' : Heap} (k : ∀ q o, h.get? q = some o → h'.get? q = some o) : h.UpToSlots h' := fun b o e _ => ⟨o.slots, k b o e⟩
theorem flying_more {base h h' : Heap} {l : List Env} {e : Addr} {Z : Obj → Prop} (x : PySem.HandSPX.FlyingZ base l e Z h) (k : ∀ q o, h.get? q = some o → h'.get? q = some o) : PySem.HandSPX.FlyingZ base l e Z h' := by
  obtain ⟨st, nb, ff, oe, vs, T, oT, ts, he, z, hv, h1, hT, ne, gT, hts, h3⟩ := x
  exact ⟨fun b o q => k b o (st b o q), nb, ff.of_keeps fun b o q _ => ⟨o, k b o q, rfl⟩, oe, vs, T, oT, ts, k _ _ he, z, hv, h1, hT, ne, k _ _ gT, hts, h3⟩
/-- the test of a clause: ok tells of which classes it is answered how -/
def Asks (X : Cx) (t : Expr) (ok : Value → Bool → Prop) : Prop :=
  ∀ (a : Addr) (oe : Obj) (cls : Value) (d : Option Addr) (pn pins : List (Addr × Obj)) (σ : L2.St) (H : Hp) (s : Shared) (Q : Value → Shared → Prop) (E : Value → Shared → Prop) (b : Bool),
    Zc cls d oe → (∃ vs, oe.data = .fields vs) → Inv (X.suite a ((a, oe) :: pn)) pins σ H s → ok cls b →
    (∀ c h' tk, (∀ q o, s.heap.get? q = some o → h'.get? q = some o) → PySem.W.Looks (model X.prog X.w) h' (excMatches (.ref a) c) b → Q c { s with heap := h', toks := tk }) →
    wpAny (model X.prog X.w) (X.A.mark (some (.ref a))) (eval t X.env) Q E s
section
variable {X : Cx}
theorem name_is {x : Str} {c : Value} {np : Pos} (hc : Names X x c) {a : Addr} {pn pins : List (Addr × Obj)} {σ : L2.St} {H : Hp} {s : Shared} {Q : Value → Shared → Prop} {E : Value → Shared → Prop}
    (I : Inv (X.suite a pn) pins σ H s) (q : Q c s) : wpAny (model X.prog X.w) (X.A.mark (some (.ref a))) (eval (.Name x np) X.env) Q E s := by
  obtain ⟨g, nd, m | ⟨m, v, nn⟩⟩ := hc
  · exact ld_glob (X := X.suite a pn) I g m q nd
  · exact ld_blt (X := X.suite a pn) I g m v q nn nd
theorem exc_class {a : Addr} {oe : Obj} {cls : Value} {d : Option Addr} {pn pins : List (Addr × Obj)} {σ : L2.St} {H : Hp} {s : Shared} (z : Zc cls d oe) (I : Inv (X.suite a ((a, oe) :: pn)) pins σ H s) :
    PySem.W.Looks (model X.prog X.w) s.heap (typeOf (.ref a)) cls := fun A Q E s1 k q =>
  wpAny_typeOf_ref (k _ _ (I.pin (a, oe) (List.mem_append_left _ List.mem_cons_self)).1) (by rw [z.1]; exact q)
theorem asks_one {x : Str} {c : Value} {np : Pos} (hc : Names X x c) : Asks X (.Name x np) fun cls b => PySem.W.exmOne X.K cls c = some b := by
  intro a oe cls d pn pins σ H s Q E b z f I e q
  exact name_is hc I (q c s.heap s.toks (fun _ _ z => z) (PySem.W.exm_one (M := model X.prog X.w) I.kIn (exc_class z I) e))
theorem asks_two {x y : Str} {c e : Value} {p1 p2 tp : Pos} {kk : Nat} (hc : Names X x c) (he : Names X y e) : Asks X (.Tuple [.Name x p1, .Name y p2] kk tp) fun cls b => PySem.W.exmAny X.K cls [c, e] = some b := by
  intro a oe cls d pn pins σ H s Q E b z f I ok q
  refine wpAny_Tuple (wpAny_items_cons (name_is hc I (wpAny_items_cons (name_is he I (wpAny_items_nil ⟨by size_fits, ?_⟩)))))
  have more : ∀ q o, s.heap.get? q = some o → (s.heap.push { cls := .type "tuple", data := .seq [c, e].toArray }).get? q = some o := fun _ _ z => Heap.get?_push_of_some _ z
  exact q (.ref s.heap.objs.size) _ s.toks more (PySem.W.exm_tup2 (I.kIn.keeps more) ((exc_class z I).keeps more) (Heap.get?_push_size s.heap rfl) ok)
end
abbrev Cl := (Value → Bool → Prop) × Option Nat × (Addr → Value → Option Addr → TS)
def endsOf (n : Option Nat) (D : Ends) : Ends := match n with
  | none => D
  | some i => { nx := fun σ G => D.nx (σ.set i none) G, rt := D.rt, bk := fun σ G => D.bk (σ.set i none) G, ct := fun σ G => D.ct (σ.set i none) G }
def slotOf (n : Option Nat) (a : Addr) (σ : L2.St) : L2.St := match n with
  | none => σ
  | some i => σ.set i (some (.ref a))
/-- what the clauses wish of an exception of the body -/
def wCl (out : WX) (D : Ends) : List Cl → WX
  | [] => out
  | (ok, n, ts) :: r => fun cls d σ H => ∃ b, ok cls b ∧ (b = true → ∀ a, H a = none → ts a cls d (endsOf n D) (slotOf n a σ) H) ∧ (b = false → wCl out D r cls d σ H)
def SuiteOk (X : Cx) (body : List Stmt) (ts : Addr → Value → Option Addr → TS) : Prop :=
  ∀ (a : Addr) (oe : Obj) (cls : Value) (d : Option Addr) (pn : List (Addr × Obj)), Zc cls d oe → (∃ vs, oe.data = .fields vs) → PSs (X.suite a ((a, oe) :: pn)) body (ts a cls d)
inductive ClOk (X : Cx) : List ExceptHandler → List Cl → Prop
  | nil : ClOk X [] []
  | plain {t : Expr} {ok : Value → Bool → Prop} {ts : Addr → Value → Option Addr → TS} {b₀ : Stmt} {suite : List Stmt} {pos : Pos} {hs : List ExceptHandler} {l : List Cl} :
      Asks X t ok → SuiteOk X (b₀ :: suite) ts → ClOk X hs l → ClOk X (.ExceptHandler (some t) none (b₀ :: suite) pos :: hs) ((ok, none, ts) :: l)
  | named {t : Expr} {ok : Value → Bool → Prop} {i : Nat} {n : Str} {ts : Addr → Value → Option Addr → TS} {b₀ : Stmt} {suite : List Stmt} {pos : Pos} {hs : List ExceptHandler} {l : List Cl} :
      X.N.Nodup → X.N[i]? = some n → X.env.kindOf n = some .local → Asks X t ok → SuiteOk X (b₀ :: suite) ts → ClOk X hs l → ClOk X (.ExceptHandler (some t) (some n) (b₀ :: suite) pos :: hs) ((ok, some i, ts) :: l)
section
variable {X : Cx} {pins : List (Addr × Obj)} {D : Ends} {out : WX}
theorem clauses (ok : X.Ok) (one : X.stack = X.env :: X.outer) (own : X.env.frame = some X.env.locals) (tk : Takes X out) {a : Addr} {B : Heap} {sI : Shared} {σ : L2.St} {H : Hp} {cls : Value} {d : Option Addr}
    (J : Inv X pins σ H sI) (nb : ∀ b o, sI.heap.get? b = some o → b ∉ frs X.stack → B.get? b = some o) (na : H a = none) :
    ∀ {hs : List ExceptHandler} {l : List Cl}, ClOk X hs l → wCl out D l cls d σ H → ∀ s3 : Shared, PySem.HandSPX.FlyingZ B (X.env :: X.outer) a (Zc cls d) s3.heap → sI.heap.UpToSlots s3.heap → s3.os = sI.os → AllBare s3.gens →
      wpAny (model X.prog X.w) X.A (handleBy (.ref a) X.env hs) (SP X pins D) X.xe s3 := by
  intro hs l cl
  -- the exception's object, apart from all frames
  have apart : ∀ {h : Heap}, PySem.HandSPX.FlyingZ B (X.env :: X.outer) a (Zc cls d) h → ∃ oe vs, h.get? a = some oe ∧ Zc cls d oe ∧ oe.data = .fields vs ∧ a ≠ X.env.locals ∧ a ∉ X.fs := by
    intro h fl
    obtain ⟨oe, vs, e, z, dd⟩ := fl.there
    have no : a ∉ frs (X.env :: X.outer) := fun m => by
      obtain ⟨_, o2, e2, nf⟩ := fl.2.2.1.mem m
      rw [e] at e2
      cases e2
      exact nf _ dd
    refine ⟨oe, vs, e, z, dd, fun q => no ?_, fun m => no ?_⟩
    · exact List.mem_filterMap.mpr ⟨X.env, List.mem_cons_self, by rw [own, q]⟩
    · obtain ⟨en, h1, h2⟩ := List.mem_filterMap.mp m
      exact List.mem_filterMap.mpr ⟨en, List.mem_cons_of_mem _ h1, h2⟩
  have landed : ∀ {s3 : Shared}, PySem.HandSPX.FlyingZ B (X.env :: X.outer) a (Zc cls d) s3.heap → sI.heap.UpToSlots s3.heap → s3.os = sI.os → AllBare s3.gens → Inv X pins σ H s3 :=
    fun fl up os ag => J.landed nb fl.1 up os ag
  -- a suite that runs, from the state behind a test that is answered with yes
  have run : ∀ {b₀ : Stmt} {body : List Stmt} {ts : Addr → Value → Option Addr → TS} {σ2 : L2.St} {D2 : Ends} {s4 : Shared} {R : Flow → Shared → Prop} {E : Value → Shared → Prop} {oe : Obj}, SuiteOk X (b₀ :: body) ts →
      Zc cls d oe → (∃ vs, oe.data = .fields vs) → Inv (X.suite a ((a, oe) :: (X.pn ++ pins))) [] σ2 H s4 → ts a cls d D2 σ2 H →
      (∀ f s5, SP (X.suite a ((a, oe) :: (X.pn ++ pins))) [] D2 f s5 → R f s5) → wpAny (model X.prog X.w) (X.A.mark (some (.ref a))) (execs (b₀ :: body) X.env) R E s4 := by
    intro b₀ body ts σ2 D2 s4 R E oe su z f S ho hq
    exact wpAny_mono ((su a oe cls d (X.pn ++ pins) z f).run [] s4 σ2 H D2 S ho) hq fun _ _ z => z.elim
  induction cl with
  | nil =>
    intro w s3 fl up os ag
    refine wpAny_handleBy_nil ?_
    obtain ⟨_, _, _, oe, vs, T, oT, ts, e, _, dd, h1, _⟩ := id fl
    unfold PySem.passOn
    refine wpAny_bind (wpAny_field e dd h1 ?_)
    rw [if_neg (by simp)]
    have last : wpAny (model X.prog X.w) X.A (setFlight (.ref a) X.env.frame) (fun _ s4 => wpAny (model X.prog X.w) X.A (throw (.ref a) : Sem Flow) (SP X pins D) X.xe s4) X.xe s3 := by
      rw [own]
      refine PySem.HandSPX.setFlight_upZ fl fun h4 f4 u4 => wpAny_throw (tk _ _ ⟨a, B, sI, pins, σ, H, cls, d, rfl, J, nb, up.trans u4, .inr (.inr (by rw [one]; exact f4)), na, os, ag, w⟩)
    first
      | exact wpAny_bind last
      | exact wpAny_bind (wpAny_pure (wpAny_bind last))
  | @plain t okc ts b₀ suite pos hs l ask su _ ih =>
    intro w s3 fl up os ag
    obtain ⟨b, hb, yes, no⟩ := w
    obtain ⟨oe, vs, e, z, dd, nL, nF⟩ := apart fl
    have S := (landed fl up os ag).suite e dd na nL nF
    refine PySem.W.exc_clause (ask a oe cls d (X.pn ++ pins) [] σ H s3 _ _ b z ⟨_, dd⟩ S hb fun c h4 t4 k4 lk => ⟨b, lk, ?_⟩)
    have fl4 := flying_more fl k4
    have up4 := up.trans (upToSlots_more k4)
    cases b with
    | false => exact ih (no rfl) { s3 with heap := h4, toks := t4 } fl4 up4 os ag
    | true =>
      rw [if_pos rfl]
      refine PySem.HandSPX.lands_againZ (s := { s3 with heap := h4, toks := t4 }) fl4 fun h5 fl5 up5 => ?_
      obtain ⟨oe5, vs5, e5, z5, dd5, nL5, nF5⟩ := apart fl5
      have S5 := (landed (s3 := { s3 with heap := h5, toks := t4 }) fl5 (up4.trans up5) os ag).suite e5 dd5 na nL5 nF5
      refine run su z5 ⟨_, dd5⟩ S5 (yes rfl a na) fun f s6 hs6 => ?_
      cases f with
      | next => obtain ⟨σ6, H6, S6, q⟩ := hs6; exact ⟨σ6, H6, S6.unsuite ok, q⟩
      | brk => obtain ⟨σ6, H6, S6, q⟩ := hs6; exact ⟨σ6, H6, S6.unsuite ok, q⟩
      | cont => obtain ⟨σ6, H6, S6, q⟩ := hs6; exact ⟨σ6, H6, S6.unsuite ok, q⟩
      | ret u => obtain ⟨v, σ6, H6, S6, r, q⟩ := hs6; exact ⟨v, σ6, H6, S6.unsuite ok, r, q⟩
  | @named t okc i n ts b₀ suite pos hs l nd hi loc ask su _ ih =>
    intro w s3 fl up os ag
    obtain ⟨b, hb, yes, no⟩ := w
    obtain ⟨oe, vs, e, z, dd, nL, nF⟩ := apart fl
    have S := (landed fl up os ag).suite e dd na nL nF
    refine PySem.W.exc_clause_as (ask a oe cls d (X.pn ++ pins) [] σ H s3 _ _ b z ⟨_, dd⟩ S hb fun c h4 t4 k4 lk => ⟨b, lk, ?_⟩)
    have fl4 := flying_more fl k4
    have up4 := up.trans (upToSlots_more k4)
    cases b with
    | false => exact ih (no rfl) { s3 with heap := h4, toks := t4 } fl4 up4 os ag
    | true =>
      rw [if_pos rfl]
      refine PySem.HandSPX.lands_againZ (s := { s3 with heap := h4, toks := t4 }) fl4 fun h5 fl5 up5 => ?_
      obtain ⟨oe5, vs5, e5, z5, dd5, nL5, nF5⟩ := apart fl5
      have S5 := (landed (s3 := { s3 with heap := h5, toks := t4 }) fl5 (up4.trans up5) os ag).suite e5 dd5 na nL5 nF5
      refine store_ok (X := X.suite a ((a, oe5) :: (X.pn ++ pins))) (v := .ref a) S5 nd hi (.inl loc) rfl (fun s6 S6 => ?_) (.inr loc)
      refine run su z5 ⟨_, dd5⟩ S6 (yes rfl a na) fun f s7 hs7 => ?_
      cases f with
      | next => obtain ⟨σ7, H7, S7, q⟩ := hs7; exact gone_ok (S7.unsuite ok) nd hi loc fun s8 J8 => ⟨_, H7, J8, q⟩
      | brk => obtain ⟨σ7, H7, S7, q⟩ := hs7; exact gone_ok (S7.unsuite ok) nd hi loc fun s8 J8 => ⟨_, H7, J8, q⟩
      | cont => obtain ⟨σ7, H7, S7, q⟩ := hs7; exact gone_ok (S7.unsuite ok) nd hi loc fun s8 J8 => ⟨_, H7, J8, q⟩
      | ret u => obtain ⟨v, σ7, H7, S7, r, q⟩ := hs7; exact gone_ok (S7.unsuite ok) nd hi loc fun s8 J8 => ⟨v, _, H7, J8, r, q⟩
theorem ps_tryCl {body : List Stmt} {h₀ : ExceptHandler} {hs : List ExceptHandler} {l : List Cl} {pos : Pos} {tb : WX → TS} (one : X.stack = X.env :: X.outer) (own : X.env.frame = some X.env.locals) (tk : Takes X out)
    (der : ∀ (W : WX) (pn : List (Addr × Obj)) (xe : Value → Shared → Prop), Takes (X.tr pn xe) W → PassesOwn (model X.prog X.w) X.A X.env xe → PSs (X.tr pn xe) body (tb W)) (cl : ClOk X (h₀ :: hs) l) :
    PS X (.Try body (h₀ :: hs) [] [] pos) fun D σ H => tb (wCl out D l) D σ H where
  run := by
    intro pins s σ H D I ho
    have ok := I.ok
    have fr : X.A.frames = some (X.env :: X.outer) := ok.frames.trans (by rw [one])
    refine wpAny_Try_except (wpAny_mono ((der (wCl out D l) (X.pn ++ pins) _ ?_ PassesOwn.looking).run [] s σ H D (I.toTry _) ho) (fun f s1 hs1 => ?_) fun e s1 z => z)
    · intro u s2 xx
      obtain ⟨a, B, sI, pins2, σ2, H2, cls, d, rfl, J2, nb, up, sky, na, os, ag, w⟩ := xx
      have J : Inv X pins σ2 H2 sI := J2.ofTry ok
      have sky2 : Sky B (X.env :: X.outer) a (Zc cls d) X.env.locals s2.heap := by rw [← one]; exact sky
      exact Sky.land Zc.steady fr own sky2 fun h3 fl3 up3 => clauses ok one own tk J nb na cl w { s2 with heap := h3 } fl3 (up.trans up3) os ag
    · cases f with
      | next => obtain ⟨σ1, H1, J, q⟩ := hs1; exact wpAny_execs_nil ⟨σ1, H1, J.ofTry ok, q⟩
      | brk => obtain ⟨σ1, H1, J, q⟩ := hs1; exact ⟨σ1, H1, J.ofTry ok, q⟩
      | cont => obtain ⟨σ1, H1, J, q⟩ := hs1; exact ⟨σ1, H1, J.ofTry ok, q⟩
      | ret u => obtain ⟨v, σ1, H1, J, r, q⟩ := hs1; exact ⟨v, σ1, H1, J.ofTry ok, r, q⟩
end
end PSG

set_option Elab.async false
set_option linter.all false
set_option maxRecDepth 100000
set_option maxHeartbeats 4000000
namespace PySem.W
open PySem PySem.Spec PySem.Calls PyProof.Rows
/-! ### isinstance of an exception of an own class, with or without attributes -/
/-- what the class must say -/
structure XcC (K : Frag) (D : Addr) : Prop where
  get : findIn K (.ref D) "__getattribute__" = some (some (.builtin "BaseException.__getattribute__"))
  get2 : findIn K (.ref D) "__getattr__" = some none
  exc : subIn K (.ref D) (.type "BaseException") = some true
  dict : hasDictIn K D = true
  cls : findIn K (.ref D) "__class__" = some (some (.builtin "object.__class__"))
  desc : specialIn K (.builtin "object.__class__") "__get__" = some (some (.builtin "getset_descriptor.__get__"))
  data : takesIn K (.builtin "object.__class__") = some true
  obj : mroIn K D (.type "object") = some true
theorem XcC.there {K : Frag} {D : Addr} (T : XcC K D) : ∃ o cd, K.lookup D = some o ∧ o.data = .cls cd := by
  obtain ⟨c1, e, _⟩ := any_some T.dict
  unfold clsIn at e
  cases q : K.lookup D with
  | none =>
    rw [q] at e
    cases e
  | some o =>
    obtain ⟨oc, od, dt, sl⟩ := o
    cases dt <;> (rw [q] at e; first | exact ⟨_, _, rfl, rfl⟩ | cases e)
section
variable {prog : Program} {w : World} {A : Around} {E : Value → Shared → Prop} {s : Shared} {K : Frag} {x D : Addr} {ox : Obj} {od : Option Obj}
theorem XcC.asked {Q : Option Value → Shared → Prop} (T : XcC K D) (X : K.In s.heap) (I : InstAt s.heap x ox D od) (ho : Q (some (.ref D)) { s with toks := s.toks + 1 }) :
    wpAny (model prog w) A (getAttr? (.ref x) "__class__") Q E s := by
  have found : findObj K D od "__class__" = some (.bind (.builtin "getset_descriptor.__get__") (.builtin "object.__class__")) := by
    obtain ⟨cd, c, _⟩ := any_some T.dict
    unfold findObj
    simp [c, T.cls, T.desc, T.data]
  obtain ⟨hp, g, dr, t, os⟩ := s
  have k1 := I.type (M := model prog w)
  have k2 := looks_findIn (M := model prog w) X T.get
  have k3 := looks_findIn (M := model prog w) X T.get2
  have k4 := looks_find (M := model prog w) X I found
  have k5 : Looks (model prog w) hp (isInstance (.ref x) (.type "BaseException")) true := k1.andThen (looks_subIn X T.exc)
  have no : (onTheHeap (Value.ref D) && Value.builtin "BaseException.__getattribute__" == Value.builtin "object.__getattribute__") = false := by
    show (Value.builtin "BaseException.__getattribute__" == Value.builtin "object.__getattribute__") = false
    decide +kernel
  have no2 : (false && onTheHeap (Value.builtin "BaseException.__getattribute__")) = false := rfl
  unfold getAttr?
  unfold getAttrBy?
  unfold getAttrBy
  refine wpAny_bind (wpAny_mkText (wpAny_bind (wpAny_attempt (wpAny_holding (wpAny_bind (k1.at (wpAny_bind (k2.at ?_))))))))
  show wpAny _ _ (if (onTheHeap (Value.ref D) && Value.builtin "BaseException.__getattribute__" == Value.builtin "object.__getattribute__") = true then _ else _) _ _ _
  rw [no]
  rw [if_neg (by decide)]
  unfold getAttrByItsOwn
  unfold hookBefore
  refine wpAny_bind ?_
  rw [if_pos (show onTheHeap (.ref D) = true from rfl)]
  refine k3.at (wpAny_bind (wpAny_attempt (wpAny_holding ?_)))
  unfold callGetattribute
  rw [no2]
  rw [if_neg (by decide)]
  unfold boundAndCalled
  rw [F.excAttr_ValueError.ga.bind (.ref x)]
  refine wpAny_bind (wpAny_pure ?_)
  show wpAny _ _ (call (.builtin "BaseException.__getattribute__") [.ref x, .str "__class__" t]) _ _ _
  refine wpAny_call (codeAny_call_builtin F.excAttr_ValueError.ga.plain F.entry_bexc_ga (@check_slot (model prog w) _ _ ⟨hp, g, dr, t + 1, os⟩ "BaseException.__getattribute__" "BaseException" "__getattribute__" (.ref x) [.str "__class__" t] [] _
    (by decide +kernel) (by decide +kernel) k5 (F.args_bexc_ga (.ref x) (.str "__class__" t)) ?_))
  unfold Builtin.«object.__getattribute__»
  refine wpAny_bind (wpAny_of_eq (a := ((Value.ref x : Value), [Value.str "__class__" t])) (by first | rfl | (simp only [slotArgs]; rfl)) (wpAny_bind (wpAny_pure (wpAny_bind (k1.at (wpAny_bind (k4.at ?_)))))))
  show wpAny _ _ (holding [Value.builtin "object.__class__"] (call (.builtin "getset_descriptor.__get__") [.builtin "object.__class__", .ref x, .ref D]) >>= ret) _ _ _
  refine wpAny_bind (wpAny_holding (wpAny_call (class_get (s := ⟨hp, g, dr, t + 1, os⟩) X I T.obj (wpAny_pure ?_))))
  show wpAny _ _ (handedOut (.ref D)) _ _ _
  rw [handedOut_of (v := .ref D) rfl]
  first
    | exact wpAny_pure ho
    | exact wpAny_pure (wpAny_pure ho)
    | exact wpAny_pure (wpAny_bind (wpAny_pure (wpAny_pure ho)))
theorem XcC.kit (T : XcC K D) : KitX K (.ref x) (.ref D) (fun h => ∃ od, InstAt h x ox D od) where
  ty := fun _ _ _ ⟨_, I⟩ => I.type
  it := fun M h X _ => by
    obtain ⟨o, cd, q, dd⟩ := T.there
    intro A2 Q2 E2 s2 k ho
    unfold isType
    unfold loadHead
    exact wpAny_bind (wpAny_loadPart (k _ _ (X _ _ q)) (by rw [dd]; exact wpAny_pure ho))
  ne := fun h tp dd its n sl X at_ => by
    obtain ⟨o, cd, q, d2⟩ := T.there
    cases z : (Value.ref D == Value.ref tp) with
    | false => rfl
    | true =>
      have e : D = tp := Value.ref.inj (beq_iff_eq.mp z)
      rw [← e, X _ _ q] at at_
      cases at_
      cases d2
  ca := fun X ⟨_, I⟩ ho => T.asked X I ho
end
end PySem.W

set_option Elab.async false
set_option linter.all false
set_option maxRecDepth 100000
set_option maxHeartbeats 4000000
/-! ### exceptions of own classes over any built-in base, as values -/
namespace PySem.XV
open PySem PySem.Spec PySem.W PySem.Calls PySem.HandSPX
section
variable {prog : Program} {w : World} {A : Around} {E : Value → Shared → Prop} {R : Result → Shared → Prop} {h : Heap} {g : Array GenState} {d : Drawn} {t : Nat} {os : OsState}
variable {nm q : Str} {C N : Addr} {bs bm bmB : List Value} {hdct : Bool} {sn : List Str} {sub : List Value} {ab : Bool} {col : Option Bool} {dd : Option Addr} {k0 k1 k2 k3 k5 : Option Value} {B newId initId : String}
theorem new_checked {M : Model} (F : ExcBaseFacts B newId initId bmB) (same : ∀ X : String, bm.contains (.type X) = bmB.contains (.type X)) {kw : List (Str × Value)} {Q : Unit → Shared → Prop}
    (at_ : h.get? C = some (excClassObj nm q C N bs bm hdct sn sub ab col dd k0 k1 k2 k3 k5 newId)) (ho : Q () ⟨h, g, d, t, os⟩) : wpAny M A (checkBuiltinCall newId ⟨[.ref C], kw⟩) Q E ⟨h, g, d, t, os⟩ := by
  have cB : (Value.ref C :: bm).contains (.type B) = true := by rw [List.contains_cons, same, F.hasB, Bool.or_true]
  have s0 := F.noStar
  simp only [checkBuiltinCall, F.newKind, F.newSplit, F.newRow]
  repeat (first
    | refine wpAny_loadPart_at at_ ?_
    | (refine wpAny_isSubtype_exc at_ ?_; rw [cB])
    | refine wpAny_staticBase_exc at_ ?_
    | refine wpAny_madeBy_exc at_ ?_
    | simp only [bne_self_eq_false, Bool.false_eq_true, if_false]
    | wp_step)
  exact ho
theorem new_kw (F : ExcBaseFacts B newId initId bmB) (same : ∀ X : String, bm.contains (.type X) = bmB.contains (.type X)) {kw : List (Str × Value)}
    (at_ : h.get? C = some (excClassObj nm q C N bs bm hdct sn sub ab col dd k0 k1 k2 k3 k5 newId))
    (ho : R (.ok (.ret (.ref (h.objs.size + 1)))) ⟨(h.push { cls := .type "tuple", data := .seq #[] }).push { cls := .ref C, data := .fields #[.ref h.objs.size, .none, .none, .none, .bool false, .none] }, g, d, t, os⟩) :
    codeAny (model prog w) A (.builtin newId ⟨[.ref C], kw⟩) R ⟨h, g, d, t, os⟩ := by
  have e0 := F.ends
  have cB : (Value.ref C :: bm).contains (.type B) = true := by rw [List.contains_cons, same, F.hasB, Bool.or_true]
  have cA : (Value.ref C :: bm).contains (.type "AttributeError") = false := by rw [List.contains_cons, same, F.noAttr]; rfl
  have cN : (Value.ref C :: bm).contains (.type "NameError") = false := by rw [List.contains_cons, same, F.noName]; rfl
  refine codeAny_builtinAt F.entry ?_
  unfold Builtin.«BaseException.__new__»
  refine wpAt_bind ?_
  show wpAt _ _ _ (stack >>= _) _ _ _
  refine wpAt_bind (wpAt_stack fun p below => wpAt_of_wpAny ?_)
  wp_walk
  refine wpAt_of_wpAny ?_
  rw [F.owner]
  repeat (first
    | with_reducible refine wpAny_madeHere_exc F.canon at_ ?_
    | with_reducible refine wpAny_loadPart_at at_ ?_
    | (with_reducible refine wpAny_isSubtype_exc at_ ?_; first | rw [cB] | rw [cA] | rw [cN])
    | wp_step)
  show R _ _
  rw [Heap.size_push]
  exact ho
theorem made_kw (F : ExcBaseFacts B newId initId bmB) (same : ∀ X : String, bm.contains (.type X) = bmB.contains (.type X)) {kw : List (Str × Value)} {fI : Addr} {Q : Fin → Shared → Prop}
    (at_ : h.get? C = some (excClassObj nm q C N bs bm hdct sn sub ab col dd k0 k1 k2 k3 k5 newId))
    (hi : W.Looks (model prog w) h (typeLookup (.ref C) "__init__") (some (.ref fI))) (hb : ∀ self, W.Looks (model prog w) h (bindSpecial (.ref fI) self) (.ref fI, [self]))
    (ho : codeAny (model prog w) A (.call (.ref fI) ⟨[.ref (h.objs.size + 1)], kw⟩)
      (fun r s' => match r with | .ok (.ret v) => v = .none ∧ Q (.done (.ret (.ref (h.objs.size + 1)))) s' | .ok _ => False | .error e => E e s')
      ⟨(h.push (W.kdv_tup [])).push (excO C h.objs.size), g, d, t, os⟩) :
    wpAny (model prog w) A (Builtin.«type.__call__» ⟨[.ref C], kw⟩) Q E ⟨h, g, d, t, os⟩ := by
  repeat (first | with_reducible refine wpAny_loadPart_at at_ ?_ | with_reducible refine wpAny_madeBy_exc at_ ?_ | wp_step)
  refine codeAny_call_builtin_code (Code.quiet_builtin _ F.quiet) (new_checked F same at_ (new_kw F same at_ ?_))
  show wpAny _ _ _ _ _ _
  have old : ∀ b o, h.get? b = some o → ((h.push (W.kdv_tup [])).push (excO C h.objs.size)).get? b = some o := fun b o e => Heap.get?_push_of_some _ (Heap.get?_push_of_some _ e)
  have at2 := old _ _ at_
  have new : ((h.push (W.kdv_tup [])).push (excO C h.objs.size)).get? (h.objs.size + 1) = some (excO C h.objs.size) := by heap_get
  have cC : (Value.ref C :: bm).contains (.ref C) = true := by simp
  have i1 := hi.keeps old
  have b1 := (hb (.ref (h.objs.size + 1))).keeps old
  unfold isInstance
  repeat (first | with_reducible refine wpAny_loadPart_at new ?_ | (with_reducible refine wpAny_isSubtype_exc at2 ?_; rw [cC]) | wp_step)
  show wpAny _ _ (typeLookup (.ref C) _) _ _ _
  refine i1.at (wpAny_holding (wpAny_bind (b1.at (wpAny_bind (wpAny_call (codeAny_mono ho fun r s' z => ?_))))))
  rcases r with e | (v | _ | _ | _) <;> first | exact z | exact z.elim | skip
  obtain ⟨rfl, z⟩ := z
  first
    | exact wpAny_pure (wpAny_pure z)
    | (wp_walk; exact z)
theorem call_kw (F : ExcBaseFacts B newId initId bmB) (same : ∀ X : String, bm.contains (.type X) = bmB.contains (.type X)) {kw : List (Str × Value)} {fI : Addr}
    (at_ : h.get? C = some (excClassObj nm q C N bs bm hdct sn sub ab col dd k0 k1 k2 k3 k5 newId))
    (hi : W.Looks (model prog w) h (typeLookup (.ref C) "__init__") (some (.ref fI))) (hb : ∀ self, W.Looks (model prog w) h (bindSpecial (.ref fI) self) (.ref fI, [self]))
    (ho : codeAny (model prog w) (A.under (.builtin "type.__call__" ⟨[.ref C], kw⟩)) (.call (.ref fI) ⟨[.ref (h.objs.size + 1)], kw⟩) (W.InitBack (h.objs.size + 1) R)
      ⟨(h.push (W.kdv_tup [])).push (excO C h.objs.size), g, d, t, os⟩) :
    codeAny (model prog w) A (.call (.ref C) ⟨[], kw⟩) R ⟨h, g, d, t, os⟩ := by
  have f1 := tc_lookup
  have f2 := tc_bind (.ref C)
  have isT : (⟨h, g, d, t, os⟩ : Shared).TypeIs (.ref C) "type" := ⟨_, at_, rfl⟩
  refine codeAny_of_tree ?_
  show wpAny _ _ (callAny (.ref C) _) _ _ _
  repeat (any_goals (first | assumption | with_reducible refine wpAny_loadPart_at at_ ?_ | wp_step))
  refine ⟨rfl, codeAny_call_builtin_at (Code.quiet_builtin _ (by decide +kernel)) entry_typeCall (wpAny_check_type_call_sub at_ (made_kw F same at_ hi hb (codeAny_mono ho fun r s' z => ?_)))⟩
  rcases r with e | (v | _ | _ | _) <;> exact z
end
end PySem.XV

set_option Elab.async false
set_option linter.all false
set_option maxRecDepth 100000
set_option maxHeartbeats 4000000
namespace PSG
open PySem PySem.Spec L2
open PyProof.Rows (IntsAre AllBare)
/-- what the written part says of an own exception class at C, whose __init__ is the def at fI -/
structure Xk (K : PySem.W.Frag) (C fI : Addr) (B newId initId : String) (bmB : List Value) : Prop where
  fb : ExcBaseFacts B newId initId bmB
  sf : StoreFacts B bmB "object.__setattr__" "object"
  made : PySem.W.excInitIn K C bmB newId = true
  over : PySem.W.excOver K C bmB = true
  dict : PySem.W.hasDictIn K C = true
  set : PySem.W.findIn K (.ref C) "__setattr__" = some (some (.builtin "object.__setattr__"))
  init : PySem.W.findIn K (.ref C) "__init__" = some (some (.ref fI))
  fn : PySem.W.typeIn K (.ref fI) = some (.type "function")
  keep : PySem.W.keepIn K (.ref C) = true
  exc : PySem.W.subIn K (.ref C) (.type "BaseException") = some true
  ty : PySem.W.typeIn K (.ref C) = some (.type "type")
/-- at a: an exception of the class at C with these attributes (the last one stored first) -/
def ExV (H : Hp) (a C : Addr) (fs : List (Str × V)) : Prop :=
  (fs = [] ∧ H a = some (exo a C none)) ∨ ∃ d, fs ≠ [] ∧ H a = some (exo a C (some d)) ∧ H d = some (exd d fs)
theorem ExV.same {H H' : Hp} {a C : Addr} {fs : List (Str × V)} (x : ExV H a C fs) (s : Same H H') : ExV H' a C fs := by
  rcases x with ⟨e, h⟩ | ⟨d, e, h, h2⟩
  · exact .inl ⟨e, s _ _ h⟩
  · exact .inr ⟨d, e, s _ _ h, s _ _ h2⟩
end PSG
namespace PySem.XV
open PySem PySem.Spec PySem.W PySem.Calls PySem.HandSPX Builtin Builtin.ObjectAttr
section
variable {prog : Program} {w : World} {A : Around} {E : Value → Shared → Prop} {R : Result → Shared → Prop} {hp : Heap} {g : Array GenState} {d : Drawn} {t : Nat} {os : OsState}
/-- self.name = v, the first one -/
theorem store_first {K : W.Frag} {B : String} {bmB : List Value} {name : Str} {tk : Tok} {v : Value} {x C : Addr} {fv : Array Value} (SF : StoreFacts B bmB "object.__setattr__" "object") (ov : excOver K C bmB = true) (hd : hasDictIn K C = true)
    (X : K.In hp) (hx : hp.get? x = some { cls := .ref C, data := .fields fv }) (ha : W.findIn K (.ref C) name = some none)
    (hq : ∀ h' tk' dx, (∀ b o, b ≠ x → hp.get? b = some o → h'.get? b = some o) → hp.objs.size ≤ dx → dx ≠ x → h'.get? x = some { cls := .ref C, dict := some dx, data := .fields fv } →
      h'.Ns1 dx (fun y => if y = name then some v else none) → R (.ok (.ret .none)) ⟨h', g, d, tk', os⟩) :
    codeAny (model prog w) A (.call (.builtin "object.__setattr__") ⟨[.ref x, .str name tk, v], []⟩) R ⟨hp, g, d, t, os⟩ := by
  have I : W.InstAt hp x { cls := .ref C, data := .fields fv } C none := ⟨hx, rfl, rfl, trivial⟩
  have ne : x ≠ hp.objs.size := Nat.ne_of_lt (Heap.lt_size hx)
  have tak : takerIn K C name = some none := by unfold takerIn; rw [ha]; rfl
  obtain ⟨cd, hcd, hh⟩ := any_some hd
  refine osa_openX SF X I ov tak fun b => ?_
  have lc : W.Looks (model prog w) hp (classData C) cd := W.looks_clsIn X hcd
  obtain ⟨nm, bs, mro, ns, qn, hdd, sn, sb, ab, col, del⟩ := cd
  dsimp only at hh
  subst hh
  show wpAny _ _ (storeInOwnDict (.ref x) (.ref C) (.str name tk) name v b) _ _ _
  unfold storeInOwnDict
  unfold ownDictForStores
  repeat (first
    | with_reducible refine store_in_new ?_ ?_
    | with_reducible refine wpAny_loadPart_at hx ?_
    | with_reducible refine lc.at ?_
    | wp_step)
  · exact ⟨_, #[], _, (Heap.get?_update_ne _ _ _ _ ne.symm).trans (Heap.get?_push_at rfl rfl), rfl, fun e he => absurd he (by simp), fun _ => rfl⟩
  · intro h' tk' hn' hs
    have hx1 : (hp.push { cls := .type "dict", data := .dict #[] }).get? x = some { cls := .ref C, data := .fields fv } := Heap.get?_push_of_some _ hx
    refine hq h' tk' hp.objs.size (fun c o hc ho => ?_) (Nat.le_refl _) ne.symm ((hs.2 x ne).trans (Heap.get?_update_self _ hx1 rfl)) hn'
    exact (hs.2 c (Nat.ne_of_lt (Heap.lt_size ho))).trans ((Heap.get?_update_ne _ _ _ _ hc).trans (Heap.get?_push_of_some _ ho))
/-- self.name = v, a further one -/
theorem store_next {K : W.Frag} {B : String} {bmB : List Value} {name : Str} {tk : Tok} {v : Value} {x C dx : Addr} {fv : Array Value} {m0 : Str → Option Value} {nl : List Str} (SF : StoreFacts B bmB "object.__setattr__" "object") (ov : excOver K C bmB = true) (hd : hasDictIn K C = true)
    (X : K.In hp) (hx : hp.get? x = some { cls := .ref C, dict := some dx, data := .fields fv }) (hns : hp.Ns1 dx m0) (hw : Within m0 nl) (hz : nl.length ≤ 1000) (ha : W.findIn K (.ref C) name = some none)
    (hq : ∀ h' tk', (∀ b o, b ≠ dx → hp.get? b = some o → h'.get? b = some o) → h'.Ns1 dx (fun y => if y = name then some v else m0 y) → R (.ok (.ret .none)) ⟨h', g, d, tk', os⟩) :
    codeAny (model prog w) A (.call (.builtin "object.__setattr__") ⟨[.ref x, .str name tk, v], []⟩) R ⟨hp, g, d, t, os⟩ := by
  obtain ⟨oD, _, _, hoD, _, _⟩ := hns.count hw
  have I : W.InstAt hp x { cls := .ref C, dict := some dx, data := .fields fv } C (some oD) := ⟨hx, rfl, rfl, hoD⟩
  have tak : takerIn K C name = some none := by unfold takerIn; rw [ha]; rfl
  obtain ⟨cd, hcd, hh⟩ := any_some hd
  refine osa_openX SF X I ov tak fun b => ?_
  have lc : W.Looks (model prog w) hp (classData C) cd := W.looks_clsIn X hcd
  obtain ⟨nm, bs, mro, ns, qn, hdd, sn, sb, ab, col, del⟩ := cd
  dsimp only at hh
  subst hh
  show wpAny _ _ (storeInOwnDict (.ref x) (.ref C) (.str name tk) name v b) _ _ _
  unfold storeInOwnDict
  unfold ownDictForStores
  repeat (first
    | with_reducible refine PySem.OEX.store_in_old hns hw hz ?_
    | with_reducible refine wpAny_loadPart_at hx ?_
    | with_reducible refine lc.at ?_
    | wp_step)
  exact fun h' tk' hn' hs => hq h' tk' (fun c o hc ho => (hs.2 c hc).trans ho) hn'
end
end PySem.XV
namespace PSG
open PySem PySem.Spec L2
open PyProof.Rows (IntsAre AllBare)
section
variable {X : Cx} {pins : List (Addr × Obj)} {σ : L2.St} {H : Hp} {s : Shared} {a C fI dx : Addr} {f : Str} {y : V} {u : Value} {fs : List (Str × V)} {Q : Unit → Shared → Prop} {E : Value → Shared → Prop} {A : Around} {B newId initId : String} {bmB : List Value}
theorem xset_first (T : Xk X.K C fI B newId initId bmB) (I : Inv X pins σ H s) (e : H a = some (exo a C none)) (no : PySem.W.findIn X.K (.ref C) f = some none) (ry : RelV y u)
    (ho : ∀ dx s', H dx = none → dx ≠ a → Inv X pins σ (upd (upd H dx (exd dx [(f, y)])) a (exo a C (some dx))) s' → Q () s') : wpAny (model X.prog X.w) A (setAttr (.ref a) f u) Q E s := by
  obtain ⟨t1, ob⟩ := exo_at I.hok e
  obtain ⟨hp, g, d, t, os⟩ := s
  refine PySem.W.set_plain I.kIn (ox := { cls := .ref C, dict := none, data := .fields #[.ref t1, .none, .none, .none, .bool false, .none] }) (od := none) ⟨ob, rfl, rfl, trivial⟩ T.set ?_
  refine PySem.XV.store_first T.sf T.over T.dict I.kIn ob no fun h' tk' dx k dn dne hx hn => ?_
  have free : H dx = none := I.hok.fresh dn
  have old : ∀ {b : Addr} {o : Obj}, hp.get? b = some o → b ≠ dx := fun {b o} q => Nat.ne_of_lt (Nat.lt_of_lt_of_le (Heap.lt_size q) dn)
  have off : ∀ {b : Addr}, H b = none → b ≠ a := fun {b} n z => by
    rw [z, e] at n
    cases n
  refine ho dx _ free dne (I.un (t' := tk') ?_ fun b o q => ?_)
  · exact {
      keep := fun b o q n _ _ => k b o (off n) q
      slot := fun b o q n _ _ => ⟨o.slots, k b o (off n) q⟩
      free := fun b o q n _ => (upd_ne (off n)).trans ((upd_ne (old q)).trans n)
      there := fun b o q _ => if hb : b = a then ⟨_, hb ▸ hx⟩ else ⟨o, k b o hb q⟩
      tups := fun b xs q => (upd_ne (at_ne e q exo_tup)).trans ((upd_ne (ne_of_none q free)).trans q)
      frzs := fun b o v q => (upd_ne (at_ne e q exo_frz)).trans ((upd_ne (ne_of_none q free)).trans q)
      tbls := fun b ps q => ⟨#[], by rw [upd_ne (at_ne e q exo_tbl), upd_ne (ne_of_none q free), q]; simp⟩ }
  · by_cases hb : b = a
    · rw [hb, upd_same] at q
      cases q
      rw [hb]
      exact exo_ok hx
    · rw [upd_ne hb] at q
      by_cases hd : b = dx
      · rw [hd, upd_same] at q
        cases q
        rw [hd]
        exact exd_ok hn (relO_put (fs := []) ry fun _ => True.intro)
      · rw [upd_ne hd] at q
        refine (I.hok b o q).stay (fun c v hc z => k c v ?_ z) (fun c hc => ?_) fun c xs hc => ?_
        · rcases hc with hc | hc
          · rw [hc]
            exact hb
          · exact at_ne e hc exo_own
        · rw [upd_ne (at_ne e hc exo_own), upd_ne (ne_of_none hc free)]
          exact hc
        · rw [upd_ne (at_ne e hc exo_tup), upd_ne (ne_of_none hc free)]
          exact hc
theorem xset_next (T : Xk X.K C fI B newId initId bmB) (I : Inv X pins σ H s) (e : H a = some (exo a C (some dx))) (ed : H dx = some (exd dx fs)) (hl : fs.length ≤ 900) (no : PySem.W.findIn X.K (.ref C) f = some none) (ry : RelV y u)
    (ho : ∀ s', Inv X pins σ (upd H dx (exd dx ((f, y) :: fs))) s' → Q () s') : wpAny (model X.prog X.w) A (setAttr (.ref a) f u) Q E s := by
  obtain ⟨t1, ob⟩ := exo_at I.hok e
  obtain ⟨mA, hns, rel⟩ := exd_at I.hok ed
  have hw := within_of rel
  obtain ⟨hp, g, d, t, os⟩ := s
  obtain ⟨oD, _, _, hoD, _, _⟩ := hns.count hw
  refine PySem.W.set_plain I.kIn (ox := { cls := .ref C, dict := some dx, data := .fields #[.ref t1, .none, .none, .none, .bool false, .none] }) (od := some oD) ⟨ob, rfl, rfl, hoD⟩ T.set ?_
  refine PySem.XV.store_next T.sf T.over T.dict I.kIn ob hns hw (by rw [List.length_map]; omega) no fun h' tk' k hn => ?_
  have hd : ∃ o, h'.get? dx = some o := by
    obtain ⟨o, _, _, e', _⟩ := hn
    exact ⟨o, e'⟩
  exact ho _ (I.write (t' := tk') (x := dx) (e := dx) (o := exd dx ((f, y) :: fs)) (by rw [ed]; exact True.intro) (.inl rfl) k hd (exd_ok hn (relO_put ry rel)))
end
/-- self.f = e in such an __init__ -/
def tXset (K : PySem.W.Frag) (f : Str) (to te : TE) : TS := fun D σ H => te σ H fun y H1 => to σ H1 fun x H2 => ∃ (a C fI : Addr) (B newId initId : String) (bmB : List Value), x = .ref a ∧ Xk K C fI B newId initId bmB ∧ PySem.W.findIn K (.ref C) f = some none ∧
  ((H2 a = some (exo a C none) ∧ ∀ dx, H2 dx = none → dx ≠ a → D.nx σ (upd (upd H2 dx (exd dx [(f, y)])) a (exo a C (some dx)))) ∨
    ∃ (dx : Addr) (fs : List (Str × V)), H2 a = some (exo a C (some dx)) ∧ H2 dx = some (exd dx fs) ∧ fs.length ≤ 900 ∧ D.nx σ (upd H2 dx (exd dx ((f, y) :: fs))))
section
variable {X : Cx} {o e : Expr} {to te : TE} {f : Str} {p' pos : Pos}
theorem ps_xset (ho : PE X o to) (he : PE X e te) (hs : swapsWith e (some (.Attribute o f p')) pos.line X.env = pure false := by rfl) : PS X (.Assign [.Attribute o f p'] e pos) (tXset X.K f to te) where
  run := fun pins s σ H D I h => by
    refine plainObj_wpAny_Assign_Attribute (thn (he.run pins s σ H _ I h) fun v s1 ⟨y, H1, I1, r1, q1⟩ => thn (ho.run pins s1 σ H1 _ I1 q1) fun u s2 ⟨x, H2, I2, r2, a, C, fI, B, newId, initId, bmB, ex, T, no, q⟩ => ?_) hs
    subst ex
    cases r2
    rcases q with ⟨ea, q⟩ | ⟨dx, fs, ea, ed, hl, q⟩
    · exact xset_first T I2 ea no r1 fun dx s' n ne J => ⟨σ, _, J, q dx n ne⟩
    · exact xset_next T I2 ea ed hl no r1 fun s' J => ⟨σ, _, J, q⟩
end
/-! ### the promise of such an __init__, and the call of the class -/
/-- the attributes fn of the new exception are the arguments -/
def spXI (C : Addr) (fn : List Str) : Sp := fun vs H Q _ => ∃ (a : Addr) (ws : List V), vs = .ref a :: ws ∧ ws.length = fn.length ∧ H a = some (exo a C none) ∧
  ∀ H2, (∀ b o, b ≠ a → H b = some o → H2 b = some o) → ExV H2 a C (fn.zip ws).reverse → Q .non H2
def tXmk (C : Addr) (fn : List Str) (t : TA) : TE := fun σ H Q => t σ H fun vs H1 => vs.length = fn.length ∧ fn.length ≤ 1000 ∧ ∀ a H2, H1 a = none → Same H1 H2 → ExV H2 a C (fn.zip vs).reverse → Q (.ref a) H2
section
variable {X : Cx} {CT : CXT} {x : Str} {C fI : Addr} {n : Nat} {fd : FuncData} {ps fn : List Str} {B newId initId : String} {bmB : List Value} {p pos : Pos}
/-- the new object, its __init__ called, tracked -/
theorem xmade {pins : List (Addr × Obj)} {σ : L2.St} {H1 : Hp} {hp : Heap} {g : Array GenState} {dr : Drawn} {tk : Nat} {os : OsState} {Q : VK} {args : Args} {us : List Value} {vs : List V} (T : Xk X.K C fI B newId initId bmB)
    (F : FnOk X.prog X.w X.K X.mg X.base CX0 n fI fd ps (spXI C fn)) (room : Room (n + 1) X.A) (I1 : Inv X pins σ H1 ⟨hp, g, dr, tk, os⟩) (lay : List Value) (kw : List (Str × Value))
    (bi : ∀ s : Shared, X.K.In s.heap → BindsTo s fd args (ps.zip (.ref (hp.objs.size + 1) :: us))) (va : Vals vs us) (len : vs.length = fn.length)
    (ho : ∀ a H2, H1 a = none → Same H1 H2 → ExV H2 a C (fn.zip vs).reverse → Q (.ref a) H2) :
    codeAny (model X.prog X.w) (X.A.under (.builtin "type.__call__" ⟨.ref C :: lay, kw⟩)) (.call (.ref fI) args)
      (PySem.W.InitBack (hp.objs.size + 1) fun r s' => match r with | .ok (.ret v) => EP X pins σ Q v s' | .ok _ => False | .error e => X.xe e s')
      ⟨(hp.push (PySem.W.kdv_tup lay)).push (PySem.HandSPX.excO C hp.objs.size), g, dr, tk, os⟩ := by
  have big : hp.objs.size ≤ hp.objs.size + 1 := Nat.le_succ _
  have free : H1 (hp.objs.size + 1) = none := I1.hok.fresh big
  have old : ∀ b o, hp.get? b = some o → ((hp.push (PySem.W.kdv_tup lay)).push (PySem.HandSPX.excO C hp.objs.size)).get? b = some o := fun b o e => Heap.get?_push_of_some _ (Heap.get?_push_of_some _ e)
  have new : ((hp.push (PySem.W.kdv_tup lay)).push (PySem.HandSPX.excO C hp.objs.size)).get? (hp.objs.size + 1) = some (PySem.HandSPX.excO C hp.objs.size) := by heap_get
  have I2 : Inv X pins σ (upd H1 (hp.objs.size + 1) (exo (hp.objs.size + 1) C none)) ⟨(hp.push (PySem.W.kdv_tup lay)).push (PySem.HandSPX.excO C hp.objs.size), g, dr, tk, os⟩ :=
    I1.laid (t' := tk) (a := hp.objs.size + 1) (o := exo (hp.objs.size + 1) C none) (h' := (hp.push (PySem.W.kdv_tup lay)).push (PySem.HandSPX.excO C hp.objs.size)) old big (exo_ok new)
  have va2 : Vals (V.ref (hp.objs.size + 1) :: vs) (Value.ref (hp.objs.size + 1) :: us) := .cons rfl va
  refine codeAny_mono (F.run _ X.stack _ _ args (Value.ref (hp.objs.size + 1) :: us) _ (fun v H2 => v = .non ∧ Q (.ref (hp.objs.size + 1)) H2) (fun _ _ _ => False) (room.make C lay kw) (I2.env0.make C lay kw) (bi _ I2.kIn) va2
    ⟨_, vs, rfl, len, upd_same, fun H2 k ex => ⟨rfl, ho _ H2 free (fun b o e => ?_) ex⟩⟩) fun r s' z => ?_
  · have nb : b ≠ hp.objs.size + 1 := ne_of_none e free
    exact k b o nb ((upd_ne nb).trans e)
  · match r, z with
    | .ok (.ret u), z =>
      obtain ⟨v, G, J, rel, ev, q⟩ := I2.after z
      subst ev
      exact ⟨rel, .ref (hp.objs.size + 1), G, J, rfl, q⟩
    | .ok .next, z => exact z.elim
    | .ok .brk, z => exact z.elim
    | .ok .cont, z => exact z.elim
    | .error er, z => exact z.elim
theorem pe_xmk {e : Expr} {es : List Expr} {t : TA} (T : Xk X.K C fI B newId initId bmB) (F : FnOk X.prog X.w X.K X.mg X.base CX0 n fI fd ps (spXI C fn)) (room : Room (n + 1) X.A) (bi : Binds X.K fd ps []) (hps : ps.length = fn.length + 1)
    (hg : Gl X x) (hm : X.mg x = some (.ref C)) (ha : PA X (e :: es) t) (nd : (x == ("__debug__" : Str)) = false := by decide)
    (se : starEach (e :: es) X.env = (false, eval e X.env) :: starEach es X.env := by rfl) (sn : (backTo pos (starEach es X.env)).any (·.1) = false := by rfl) :
    PE X (.Call (.Name x p) (e :: es) [] pos) (tXmk C fn t) where
  run := fun pins s σ H Q I h => by
    refine wpAny_Call_Name_kw (ld_glob I hg hm ?_ nd)
    refine PySem.W.callWith_K (h₀ := X.base) I.ok.mod.kin T.keep (thn (ha.run pos pins s σ H _ I h) fun us s1 ⟨vs, H1, I1, r1, hl, hz, q1⟩ => ⟨I1.kIn, ?_⟩) se sn
    show wpAny _ _ (call (.ref C) us) _ _ _
    obtain ⟨hp, g, dr, tk, os⟩ := s1
    obtain ⟨nm, N, qn, bs, bm, hdct, sn, sub, ab, col, dd, k0, k1, k2, k3, k5, hC, same⟩ := PySem.W.excInit_of I1.kIn T.made
    have lu : us.length = fn.length := r1.length.symm.trans hl
    refine wpAny_call (PySem.HandSPX.call_own T.fb same hC (PySem.W.looks_findIn I1.kIn T.init) (fun self => PySem.W.bind_fn I1.kIn self T.fn) (by rw [sizeLine_eq]; omega) ?_)
    refine codeAny_mono (xmade (Q := Q) T F room I1 us [] (args := ⟨Value.ref (hp.objs.size + 1) :: us, []⟩) (us := us) (fun s2 k2 => ?_) r1 hl q1) fun r s' z => ?_
    · have z := bi s2 (Value.ref (hp.objs.size + 1) :: us) k2 (by rw [List.append_nil, List.length_cons, lu, hps])
      rw [List.append_nil] at z
      exact z
    · exact z
theorem pe_xmk0 (T : Xk X.K C fI B newId initId bmB) (F : FnOk X.prog X.w X.K X.mg X.base CX0 n fI fd ps (spXI C [])) (room : Room (n + 1) X.A) (bi : Binds X.K fd ps []) (hps : ps.length = 1)
    (hg : Gl X x) (hm : X.mg x = some (.ref C)) (nd : (x == ("__debug__" : Str)) = false := by decide) : PE X (.Call (.Name x p) [] [] pos) (tXmk C [] tNil) where
  run := fun pins s σ H Q I h => by
    refine wpAny_Call_Name_kw (ld_glob I hg hm ?_ nd)
    refine PySem.W.callWith_K0 I.kIn T.keep ?_
    obtain ⟨hp, g, dr, tk, os⟩ := s
    obtain ⟨nm, N, qn, bs, bm, hdct, sn, sub, ab, col, dd, k0, k1, k2, k3, k5, hC, same⟩ := PySem.W.excInit_of I.kIn T.made
    refine wpAny_call (PySem.HandSPX.call_own T.fb same hC (PySem.W.looks_findIn I.kIn T.init) (fun self => PySem.W.bind_fn I.kIn self T.fn) (Nat.zero_le _) ?_)
    refine codeAny_mono (xmade (Q := Q) (vs := []) T F room I [] [] (args := ⟨[Value.ref (hp.objs.size + 1)], []⟩) (us := []) (fun s2 k2 => ?_) .nil rfl h.2.2) fun r s' z => z
    have z := bi s2 [Value.ref (hp.objs.size + 1)] k2 (by rw [List.append_nil, hps]; rfl)
    exact z
/-- C(k = v, ..), keywords alone -/
theorem pe_xmkK {kws : List Keyword} {ks : List Str} {t : TA} (T : Xk X.K C fI B newId initId bmB) (F : FnOk X.prog X.w X.K X.mg X.base CX0 n fI fd ps (spXI C fn)) (room : Room (n + 1) X.A)
    (bi : ∀ (s : Shared) (u : Value) (ws : List Value), X.K.In s.heap → ws.length = ks.length → BindsTo s fd ⟨[u], ks.zip ws⟩ (ps.zip (u :: ws))) (lk : ks.length = fn.length)
    (hg : Gl X x) (hm : X.mg x = some (.ref C)) (ha : PK X kws t) (hall : (backToKw pos (keywordEach kws X.env)).all (·.1.isSome) = true := by rfl) (hks : (backToKw pos (keywordEach kws X.env)).filterMap (·.1) = ks := by rfl)
    (nd : (x == ("__debug__" : Str)) = false := by decide) (sn : ((backTo pos (starEach [] X.env)).any (·.1) || (backToKw pos (keywordEach kws X.env)).any (·.1.isNone)) = false := by rfl) :
    PE X (.Call (.Name x p) [] kws pos) (tXmk C fn t) where
  run := fun pins s σ H Q I h => by
    refine wpAny_Call_Name_kw (ld_glob I hg hm ?_ nd)
    refine PySem.W.callWith_KW0 (h₀ := X.base) I.ok.mod.kin T.keep hall (thn (ha.run pos pins s σ H _ I h) fun ws s1 ⟨vs, H1, I1, r1, hl, hz, q1⟩ => ⟨I1.kIn, ?_⟩) sn
    rw [hks]
    show wpAny _ _ (call (.ref C) [] (ks.zip ws)) _ _ _
    obtain ⟨hp, g, dr, tk, os⟩ := s1
    obtain ⟨nm, N, qn, bs, bm, hdct, sn, sub, ab, col, dd, k0, k1, k2, k3, k5, hC, same⟩ := PySem.W.excInit_of I1.kIn T.made
    have lu : ws.length = ks.length := (r1.length.symm.trans hl).trans lk.symm
    refine wpAny_call (PySem.XV.call_kw T.fb same hC (PySem.W.looks_findIn I1.kIn T.init) (fun self => PySem.W.bind_fn I1.kIn self T.fn) ?_)
    exact codeAny_mono (xmade (Q := Q) T F room I1 [] (ks.zip ws) (args := ⟨[Value.ref (hp.objs.size + 1)], ks.zip ws⟩) (us := ws) (fun s2 k2 => bi s2 _ ws k2 lu) r1 hl q1) fun r s' z => z
end
end PSG

set_option Elab.async false
set_option linter.all false
set_option maxRecDepth 100000
set_option maxHeartbeats 4000000
namespace PSG
open PySem PySem.Spec L2
open PyProof.Rows (IntsAre AllBare)
section
variable {X : Cx} {pins : List (Addr × Obj)} {σ : L2.St} {H : Hp} {s : Shared} {a C : Addr} {fs : List (Str × V)}
theorem exv_inst (I : Inv X pins σ H s) (x : ExV H a C fs) : ∃ ox od, PySem.W.InstAt s.heap a ox C od ∧ ((fs = [] ∧ od = none) ∨ ∃ dx o, od = some o ∧ H dx = some (exd dx fs) ∧ s.heap.get? dx = some o) := by
  rcases x with ⟨e, h⟩ | ⟨d, e, h, h2⟩
  · obtain ⟨t1, ob⟩ := exo_at I.hok h
    exact ⟨_, none, ⟨ob, rfl, rfl, trivial⟩, .inl ⟨e, rfl⟩⟩
  · obtain ⟨t1, ob⟩ := exo_at I.hok h
    obtain ⟨mA, hns, rel⟩ := exd_at I.hok h2
    obtain ⟨o, ho, _⟩ := lookIn_ns hns
    exact ⟨_, some o, ⟨ob, rfl, rfl, ho⟩, .inr ⟨d, o, rfl, h2, ho⟩⟩
/-- e.n, e an exception that stands -/
def tXfld (K : PySem.W.Frag) (n : Str) (te : TE) : TE := fun σ H Q => te σ H fun x H1 => ∃ (a C : Addr) (fs : List (Str × V)) (v : V), x = .ref a ∧ ExV H1 a C fs ∧ PySem.W.XcC K C ∧ PySem.W.findIn K (.ref C) n = some none ∧ fs.lookup n = some v ∧ Q v H1
theorem pe_xfld {e : Expr} {te : TE} {pos : Pos} {n : Str} (he : PE X e te) (hb : attributeBase e n X.env (eval e X.env) = eval e X.env := by rfl) : PE X (.Attribute e n pos) (tXfld X.K n te) where
  run := fun pins s σ H Q I h => by
    refine attr_of hb (thn (he.run pins s σ H _ I h) fun u s1 hh => ?_)
    obtain ⟨x, H1, I1, rx, a, C, fs, v, ex, V1, T, no, l, q⟩ := hh
    subst ex
    cases rx
    rcases V1 with ⟨e, h1⟩ | ⟨d, _, h1, h2⟩
    · rw [e] at l
      cases l
    · obtain ⟨t1, ob⟩ := exo_at I1.hok h1
      obtain ⟨mA, hns, rel⟩ := exd_at I1.hok h2
      obtain ⟨o, ho, look⟩ := lookIn_ns hns
      obtain ⟨w, hw, rw_⟩ := RelO.some_of (v := v) (o := mA n) (by rw [← l]; exact rel n)
      have J : PySem.W.InstAt s1.heap a _ C (some o) := ⟨ob, rfl, rfl, ho⟩
      exact PySem.HandSPX.exc_get I1.kIn J T.get T.get2 T.exc (PySem.W.findObj_own T.dict no rfl (by rw [look, hw])) (handed_of rw_) ⟨v, H1, I1.tok _, rw_, q⟩
/-- isinstance(e, c), e an exception that stands -/
def rXis (K : PySem.W.Frag) : List V → Hp → VK → Prop := fun xs H Q => ∃ (a C : Addr) (fs : List (Str × V)) (c : V) (u : Value) (b : Bool), xs = [.ref a, c] ∧ ClsV c u ∧ ExV H a C fs ∧ PySem.W.XcC K C ∧ PySem.W.kitOne K (.ref C) u = some b ∧ Q (.bl b) H
theorem call_xis : CallR X (.builtin "isinstance") (rXis X.K) := by
  intro pins s σ H xs us Q I r h
  obtain ⟨a, C, fs, c, u, b, rfl, k, x, T, e, q⟩ := h
  obtain ⟨u1, u2, rfl, r1, r2⟩ := vals2 r
  cases r1
  have e2 := k.eq r2
  subst e2
  obtain ⟨ox, od, J, _⟩ := exv_inst I x
  exact PySem.W.kia_one (T.kit (x := a) (ox := ox)) I.kIn ⟨od, J⟩ e (fun z => nomatch z) fun tk => ⟨.bl b, H, I.tok tk, rfl, q⟩
end
/-! ### lists that are new: not sys.modules -/
def tLstF (t : TA) : TE := fun σ H Q => t σ H fun xs H1 => xs.length ≤ sizeLine ∧ ∀ p, H1 p = none → p ≠ sysModules → Q (.ref p) (upd H1 p (.lst xs))
def rCatF : R2 := fun x y H Q => ∃ l b xs zs, x = .ref l ∧ y = .ref b ∧ H l = some (.lst xs) ∧ H b = some (.lst zs) ∧ xs.length + zs.length ≤ sizeLine ∧ ∀ p, H p = none → p ≠ sysModules → Q (.ref p) (upd H p (.lst (xs ++ zs)))
section
variable {X : Cx}
theorem pe_lstF {es : List Expr} {t : TA} {pos : Pos} (h : PA X es t) : PE X (.List es pos) (tLstF t) where
  run := fun pins s σ H Q I ho => by
    refine wpAny_List (thn (h.run pos pins s σ H _ I ho) fun us s1 ⟨xs, H1, I1, r, hz, q⟩ => ?_)
    have hl := r.length
    have new : s1.heap.objs.size ≠ sysModules := Nat.ne_of_gt I1.big
    exact ⟨by omega, .ref s1.heap.objs.size, _, I1.lnew (t' := s1.toks) r hz, rfl, q _ I1.fresh new⟩
theorem op_catF : OpR X (binaryOp .Add) rCatF := by
  intro pins s σ H x y v u Q I rx ry ho
  obtain ⟨l, b, xs, zs, rfl, rfl, h1, h2, hz, q⟩ := ho
  cases rx
  cases ry
  obtain ⟨_, is, _, r, _, e⟩ := I.lstM h1
  obtain ⟨_, js, _, r2, _, e2⟩ := I.lstM h2
  have l1 := r.length
  have l2 := r2.length
  refine PySem.P.add_list e e2 ?_ (by rw [List.size_toArray, List.size_toArray]; omega)
  rw [show is.toArray ++ js.toArray = (is ++ js).toArray by simp]
  have new : s.heap.objs.size ≠ sysModules := Nat.ne_of_gt I.big
  exact ⟨.ref s.heap.objs.size, _, I.lnew (t' := s.toks) (r.append r2) (by rw [List.length_append]; omega), rfl, q _ I.fresh new⟩
end
/-! ### heaps, data, draws -/
/-- what is tracked now and was not then -/
def news (B H : Hp) : Hp := fun b => match B b with | none => H b | some _ => none
theorem news_at {B H : Hp} {b : Addr} {o : HO} (h : B b = none) (e : H b = some o) : news B H b = some o := by
  unfold news
  rw [h]
  exact e
theorem news_of {B H : Hp} {b : Addr} {o : HO} (e : news B H b = some o) : B b = none ∧ H b = some o := by
  unfold news at e
  cases q : B b with
  | none =>
    rw [q] at e
    exact ⟨rfl, e⟩
  | some u =>
    rw [q] at e
    cases e
theorem news_sub {B H : Hp} : Same (news B H) H := fun _ _ e => (news_of e).2
mutual
theorem Dt.same {far : Bool} {H H' : Hp} (s : Same H H') : ∀ {v : V} {d : PyData}, Dt far H v d → Dt far H' v d
  | _, _, .non => .non
  | _, _, .bl b => .bl b
  | _, _, .int i => .int i
  | _, _, .str x => .str x
  | _, _, .lst e f t => .lst (s _ _ e) f (DtAll.same s t)
  | _, _, .tup e t => .tup (s _ _ e) (DtAll.same s t)
  | _, _, .dict e p => .dict (s _ _ e) p
theorem DtAll.same {far : Bool} {H H' : Hp} (s : Same H H') : ∀ {vs : List V} {ds : List PyData}, DtAll far H vs ds → DtAll far H' vs ds
  | _, _, .nil => .nil
  | _, _, .cons h t => .cons (Dt.same s h) (DtAll.same s t)
end
theorem DtAll.length {far : Bool} {H : Hp} : ∀ {vs : List V} {ds : List PyData}, DtAll far H vs ds → vs.length = ds.length
  | _, _, .nil => rfl
  | _, _, .cons _ t => congrArg Nat.succ (DtAll.length t)
theorem DtAll.append {far : Bool} {H : Hp} : ∀ {vs ws : List V} {ds es : List PyData}, DtAll far H vs ds → DtAll far H ws es → DtAll far H (vs ++ ws) (ds ++ es)
  | _, _, _, _, .nil, h => h
  | _, _, _, _, .cons h t, h2 => .cons h (DtAll.append t h2)
theorem DtAll.get {far : Bool} {H : Hp} : ∀ {vs : List V} {ds : List PyData} {i : Nat} {v : V}, DtAll far H vs ds → vs[i]? = some v → ∃ d, ds[i]? = some d ∧ Dt far H v d
  | _, _, i, _, .nil, e => by simp at e
  | _, _, 0, _, .cons h _, e => by
    have e' := Option.some.inj e
    subst e'
    exact ⟨_, rfl, h⟩
  | _, _, i + 1, _, .cons _ t, e => DtAll.get (i := i) t e
/-- all but the object at r is as it was -/
def But (r : Addr) (H H' : Hp) : Prop := ∀ b o, b ≠ r → H b = some o → H' b = some o
theorem But.refl {r : Addr} {H : Hp} : But r H H := fun _ _ _ e => e
theorem But.trans {r : Addr} {H H1 H2 : Hp} (a : But r H H1) (b : But r H1 H2) : But r H H2 := fun c o n e => b c o n (a c o n e)
theorem But.of {r : Addr} {H H' : Hp} (s : Same H H') : But r H H' := fun b o _ e => s b o e
theorem But.at {r : Addr} {H : Hp} {o : HO} : But r H (upd H r o) := fun b _ n e => (upd_ne n).trans e
theorem same_new {H : Hp} {p : Addr} {o : HO} (h : H p = none) : Same H (upd H p o) := fun b x e => (upd_ne (ne_of_none e h)).trans e
/-- at r: the two numbers that the draws are made of -/
def Rg (H : Hp) (r : Addr) : Prop := ∃ x y : Int, H r = some (.lst [.int x, .int y]) ∧ 0 ≤ x ∧ 0 ≤ y ∧ y < 2147483587
theorem Rg.some {H : Hp} {r : Addr} (g : Rg H r) : ∃ o, H r = some o := by
  obtain ⟨x, y, e, _⟩ := g
  exact ⟨_, e⟩
theorem Rg.new {H : Hp} {r p : Addr} {o : HO} (g : Rg H r) (h : H p = none) : Rg (upd H p o) r := by
  obtain ⟨x, y, e, z⟩ := g
  exact ⟨x, y, (upd_ne (ne_of_none e h)).trans e, z⟩
theorem Rg.same {H H' : Hp} {r : Addr} (g : Rg H r) (s : Same H H') : Rg H' r := by
  obtain ⟨x, y, e, z⟩ := g
  exact ⟨x, y, s _ _ e, z⟩
/-- what is new stays, where all that is not new may change -/
theorem news_but {B H H' : Hp} {r : Addr} (s : But r H H') (there : ∃ o, B r = some o) : Same (news B H) (news B H') := fun b o e => by
  obtain ⟨h1, h2⟩ := news_of e
  obtain ⟨u, hu⟩ := there
  exact news_at h1 (s b o (fun z => by rw [z, hu] at h1; cases h1) h2)
theorem news_up {B H H' : Hp} (d : ∀ b o, B b = some o → ∃ u, H b = some u) : Same (news H H') (news B H') := fun b o e => by
  obtain ⟨h1, h2⟩ := news_of e
  refine news_at ?_ h2
  cases q : B b with
  | none => rfl
  | some u =>
    obtain ⟨x, hx⟩ := d b u q
    rw [h1] at hx
    cases hx
theorem But.dom {r : Addr} {H H' : Hp} (s : But r H H') (g : ∃ o, H' r = some o) : ∀ b o, H b = some o → ∃ u, H' b = some u := fun b o e => by
  by_cases hb : b = r
  · rw [hb]
    exact g
  · exact ⟨o, s b o hb e⟩
/-- data with a short text, not deep -/
structure Nice (d : PyData) : Prop where
  sh : d.showable = true
  ln : d.shown.length ≤ 100
  dp : d.depth ≤ 6
end PSG

set_option Elab.async false
set_option linter.all false
set_option maxRecDepth 100000
set_option maxHeartbeats 4000000
/-! zip of two texts -/
namespace PSZ
open PySem
open PySem.Sem (wp)
section
variable {prog : Program} {w : World} {A : Around} {E : Value → Shared → Prop} {s : Shared}
def TextTy (ty : String) : Prop := ty = "str_ascii_iterator" ∨ ty = "str_iterator"
theorem text_item {ty : String} {p : Addr} {x : Str} {t : Tok} {i c : Nat} {Q : Value → Shared → Prop} (k : TextTy ty) (it : s.heap.IsStrIter p ty x t i) (e : x.cps[i]? = some c)
    (q : ∀ g, g.IsStrIter p ty x t (i + 1) → Heap.SameBut p s.heap g → Q (.str ⟨#[c]⟩ s.toks) { s with heap := g, toks := s.toks + 1 }) : wpAny (model prog w) A (Builtin.SmallTypes.nextOf (.ref p)) Q E s := by
  rcases k with rfl | rfl
  · exact wpAny_nextOf_ascii_item it e q
  · exact wpAny_nextOf_wide_item it e q
theorem text_end {ty : String} {p : Addr} {x : Str} {t : Tok} {i : Nat} {Q : Value → Shared → Prop} (k : TextTy ty) (hd : A.handled = none) (it : s.heap.IsStrIter p ty x t i) (e : x.cps[i]? = none)
    (q : ∀ g b, Heap.ExtBut p s.heap g → (∃ o, g.get? b = some o ∧ o.cls = .type "StopIteration") → E (.ref b) { s with heap := g }) : wpAny (model prog w) A (Builtin.SmallTypes.nextOf (.ref p)) Q E s := by
  rcases k with rfl | rfl
  · exact wpAny_nextOf_ascii_end hd it e q
  · exact wpAny_nextOf_wide_end hd it e q
theorem at_text {h h' : Heap} {p : Addr} {ty : String} {x : Str} {t : Tok} {i : Nat} (y : h.IsStrIter p ty x t i) (k : ∀ o, h.get? p = some o → h'.get? p = some o) : h'.IsStrIter p ty x t i :=
  let ⟨o, e, r⟩ := y
  ⟨o, k o e, r⟩
/-- a turn of zip over two texts that both have a further sign -/
theorem zipS_item {z TI TO i1 i2 l1 l2 : Addr} {ty1 ty2 : String} {x1 x2 : Str} {t1 t2 : Tok} {k1 k2 c1 c2 : Nat} {a b : Value} {Q : Value → Shared → Prop} (D : ZipApart z TI TO i1 i2 l1 l2) (y1 : TextTy ty1) (y2 : TextTy ty2)
    (hz : IsZip s.heap z TI TO .none) (hTI : IsPair s.heap TI (.ref i1) (.ref i2)) (hTO : IsPair s.heap TO a b) (h1 : s.heap.IsStrIter i1 ty1 x1 t1 k1) (h2 : s.heap.IsStrIter i2 ty2 x2 t2 k2)
    (e1 : x1.cps[k1]? = some c1) (e2 : x2.cps[k2]? = some c2)
    (q : ∀ g n u1 u2, IsZip g z TI TO (rawInt s.heap.objs.size) → (∃ a b, IsPair g TO a b) → g.IsStrIter i1 ty1 x1 t1 (k1 + 1) → g.IsStrIter i2 ty2 x2 t2 (k2 + 1) → IsPair g s.heap.objs.size (.str ⟨#[c1]⟩ u1) (.str ⟨#[c2]⟩ u2) →
      (∀ c o, c ≠ z → c ≠ TO → c ≠ i1 → c ≠ i2 → s.heap.get? c = some o → g.get? c = some o) → Q (.ref s.heap.objs.size) { s with heap := g, toks := n }) :
    wpAny (model prog w) A (Builtin.«zip.__next__» ⟨[.ref z], []⟩) (fun r s' => ∃ v, r = .done (.ret v) ∧ Q v s') E s := by
  show wpAny _ _ (field (.ref z) 2 >>= _) _ _ _
  refine wpAny_bind (wpAny_field hz rfl (x := .bool false) rfl ?_)
  show wpAny _ _ (field (.ref z) 3 >>= _) _ _ _
  refine wpAny_bind (wpAny_field hz rfl (x := .ref TI) rfl ?_)
  refine wpAny_bind (wpAny_seqItems hTI rfl ?_)
  show wpAny _ _ (Builtin.SmallTypes.ownedTupleIsFree (.ref z) >>= _) _ _ _
  refine wpAny_bind ?_
  unfold Builtin.SmallTypes.ownedTupleIsFree
  refine wpAny_bind (wpAny_field hz rfl (x := .none) rfl (wpAny_pure ?_))
  simp only [if_true]
  refine wpAny_bind (wpAny_rule ?_)
  refine wpAny_bind (wpAny_field hz rfl (x := .ref TO) rfl ?_)
  refine wpAny_bind (wpAny_setField_rec hz (by simp) fun g1 z1 s1 => ?_)
  replace z1 : IsZip g1 z TI TO .ellipsis := z1
  refine wpAny_bind ?_
  simp only [List.zipIdx_cons, List.zipIdx_nil, List.forIn_cons, List.forIn_nil]
  refine wpAny_bind (wpAny_bind (wpAny_onRaise ?_))
  show wpAny _ _ (Builtin.SmallTypes.nextOf (.ref i1) >>= _) _ _ _
  refine wpAny_bind (text_item y1 (h1.extBut s1.extBut D.i1z) e1 fun g2 it1 s2 => wpAny_pure ?_)
  have o2 : IsPair g2 TO a b := s2.extBut _ _ D.TOi1 (s1.extBut _ _ D.TOz hTO)
  refine wpAny_bind (wpAny_seqItems o2 rfl ?_)
  refine wpAny_bind (wpAny_updateSeq_pair o2 fun g3 o3 s3 => ?_)
  replace o3 : IsPair g3 TO (.str ⟨#[c1]⟩ s.toks) b := o3
  refine wpAny_bind (wpAny_letGo (wpAny_pure ?_))
  refine wpAny_bind (wpAny_bind (wpAny_onRaise ?_))
  show wpAny _ _ (Builtin.SmallTypes.nextOf (.ref i2) >>= _) _ _ _
  refine wpAny_bind (text_item y2 (((h2.extBut s1.extBut D.i2z).extBut s2.extBut D.i12.symm).extBut s3.extBut D.TOi2.symm) e2 fun g4 it2 s4 => wpAny_pure ?_)
  have o4 : IsPair g4 TO (.str ⟨#[c1]⟩ s.toks) b := s4.extBut _ _ D.TOi2 o3
  refine wpAny_bind (wpAny_seqItems o4 rfl ?_)
  refine wpAny_bind (wpAny_updateSeq_pair o4 fun g5 o5 s5 => ?_)
  replace o5 : IsPair g5 TO (.str ⟨#[c1]⟩ s.toks) (.str ⟨#[c2]⟩ (s.toks + 1)) := o5
  refine wpAny_bind (wpAny_letGo (wpAny_pure (wpAny_pure ?_)))
  refine wpAny_bind (wpAny_seqItems o5 rfl ?_)
  refine wpAny_bind (wpAny_newTuple ?_)
  have size : g5.objs.size = s.heap.objs.size := by rw [s5.1, s4.1, s3.1, s2.1, s1.1]
  have z5 : IsZip g5 z TI TO .ellipsis := s5.extBut _ _ D.TOz.symm (s4.extBut _ _ D.i2z.symm (s3.extBut _ _ D.TOz.symm (s2.extBut _ _ D.i1z.symm z1)))
  have keep : ∀ c o, c ≠ z → c ≠ TO → c ≠ i1 → c ≠ i2 → s.heap.get? c = some o → g5.get? c = some o := fun c o n1 n2 n3 n4 e =>
    s5.extBut _ _ n2 (s4.extBut _ _ n4 (s3.extBut _ _ n2 (s2.extBut _ _ n3 (s1.extBut _ _ n1 e))))
  have j1 : g5.IsStrIter i1 ty1 x1 t1 (k1 + 1) := ((it1.extBut s3.extBut D.TOi1.symm).extBut s4.extBut D.i12).extBut s5.extBut D.TOi1.symm
  have j2 : g5.IsStrIter i2 ty2 x2 t2 (k2 + 1) := it2.extBut s5.extBut D.TOi2.symm
  have lz : z < g5.objs.size := Heap.lt_size z5
  show wpAny _ _ (Builtin.SmallTypes.ownedTupleHandOut (.ref z) (.ref g5.objs.size) >>= _) _ _ _
  refine wpAny_bind ?_
  unfold Builtin.SmallTypes.ownedTupleHandOut
  have z6 : IsZip (g5.push { cls := .type "tuple", data := .seq #[.str ⟨#[c1]⟩ s.toks, .str ⟨#[c2]⟩ (s.toks + 1)] }) z TI TO .ellipsis := Heap.get?_push_of_some _ z5
  refine wpAny_bind (wpAny_setField_rec z6 (by simp) fun g7 z7 s7 => ?_)
  replace z7 : IsZip g7 z TI TO (rawInt g5.objs.size) := z7
  refine wpAny_setField_rec z7 (by simp) fun g8 z8 s8 => ?_
  replace z8 : IsZip g8 z TI TO (rawInt g5.objs.size) := z8
  have up : ∀ c o, c ≠ z → g5.get? c = some o → g8.get? c = some o := fun c o n e => s8.extBut _ _ n (s7.extBut _ _ n (Heap.get?_push_of_some _ e))
  have p8 : IsPair g8 g5.objs.size (.str ⟨#[c1]⟩ s.toks) (.str ⟨#[c2]⟩ (s.toks + 1)) := s8.extBut _ _ (Nat.ne_of_gt lz) (s7.extBut _ _ (Nat.ne_of_gt lz) (Heap.get?_push_size _ rfl))
  rw [size] at z8 p8
  refine wpAny_pure ⟨_, rfl, ?_⟩
  show Q (.ref g5.objs.size) _
  rw [size]
  exact q g8 _ _ _ z8 ⟨_, _, up _ _ D.TOz o5⟩ (at_text j1 fun o e => up _ o D.i1z e) (at_text j2 fun o e => up _ o D.i2z e) p8 fun c o n1 n2 n3 n4 e => up c o n1 (keep c o n1 n2 n3 n4 e)
/-- the turn at which one of the texts is at its end -/
theorem zipS_end {z TI TO i1 i2 l1 l2 : Addr} {ty1 ty2 : String} {x1 x2 : Str} {t1 t2 : Tok} {k1 k2 : Nat} {a b : Value} {Q : Fin → Shared → Prop} (hd : A.handled = none) (D : ZipApart z TI TO i1 i2 l1 l2) (y1 : TextTy ty1) (y2 : TextTy ty2)
    (hz : IsZip s.heap z TI TO .none) (hTI : IsPair s.heap TI (.ref i1) (.ref i2)) (hTO : IsPair s.heap TO a b) (h1 : s.heap.IsStrIter i1 ty1 x1 t1 k1) (h2 : s.heap.IsStrIter i2 ty2 x2 t2 k2)
    (fin : x1.cps[k1]? = none ∨ x2.cps[k2]? = none)
    (q : ∀ g n e, (∀ c o, c ≠ z → c ≠ TO → c ≠ i1 → c ≠ i2 → s.heap.get? c = some o → g.get? c = some o) → (∃ o, g.get? e = some o ∧ o.cls = .type "StopIteration") → E (.ref e) { s with heap := g, toks := n }) :
    wpAny (model prog w) A (Builtin.«zip.__next__» ⟨[.ref z], []⟩) Q E s := by
  show wpAny _ _ (field (.ref z) 2 >>= _) _ _ _
  refine wpAny_bind (wpAny_field hz rfl (x := .bool false) rfl ?_)
  show wpAny _ _ (field (.ref z) 3 >>= _) _ _ _
  refine wpAny_bind (wpAny_field hz rfl (x := .ref TI) rfl ?_)
  refine wpAny_bind (wpAny_seqItems hTI rfl ?_)
  show wpAny _ _ (Builtin.SmallTypes.ownedTupleIsFree (.ref z) >>= _) _ _ _
  refine wpAny_bind ?_
  unfold Builtin.SmallTypes.ownedTupleIsFree
  refine wpAny_bind (wpAny_field hz rfl (x := .none) rfl (wpAny_pure ?_))
  simp only [if_true]
  refine wpAny_bind (wpAny_rule ?_)
  refine wpAny_bind (wpAny_field hz rfl (x := .ref TO) rfl ?_)
  refine wpAny_bind (wpAny_setField_rec hz (by simp) fun g1 z1 s1 => ?_)
  replace z1 : IsZip g1 z TI TO .ellipsis := z1
  refine wpAny_bind ?_
  simp only [List.zipIdx_cons, List.zipIdx_nil, List.forIn_cons, List.forIn_nil]
  refine wpAny_bind (wpAny_bind (wpAny_onRaise ?_))
  show wpAny _ _ (Builtin.SmallTypes.nextOf (.ref i1) >>= _) _ _ _
  cases e1 : x1.cps[k1]? with
  | none =>
    refine wpAny_bind (text_end y1 hd (h1.extBut s1.extBut D.i1z) e1 fun g2 e s2 st => ?_)
    obtain ⟨oe, ge, ce⟩ := st
    have z2 : IsZip g2 z TI TO .ellipsis := s2 _ _ D.i1z.symm z1
    have nz : e ≠ z := fun x => by
      rw [x, z2] at ge
      cases ge
      simp at ce
    exact wpAny_setField_rec z2 (by simp) fun g3 _ s3 => q g3 _ e (fun c o n1 _ n3 _ x => s3.extBut _ _ n1 (s2 _ _ n3 (s1.extBut _ _ n1 x))) ⟨oe, s3.extBut _ _ nz ge, ce⟩
  | some c1 =>
    have e2 : x2.cps[k2]? = none := by
      rcases fin with h | h
      · rw [e1] at h
        cases h
      · exact h
    refine wpAny_bind (text_item y1 (h1.extBut s1.extBut D.i1z) e1 fun g2 it1 s2 => wpAny_pure ?_)
    have o2 : IsPair g2 TO a b := s2.extBut _ _ D.TOi1 (s1.extBut _ _ D.TOz hTO)
    refine wpAny_bind (wpAny_seqItems o2 rfl ?_)
    refine wpAny_bind (wpAny_updateSeq_pair o2 fun g3 o3 s3 => ?_)
    refine wpAny_bind (wpAny_letGo (wpAny_pure ?_))
    refine wpAny_bind (wpAny_bind (wpAny_onRaise ?_))
    show wpAny _ _ (Builtin.SmallTypes.nextOf (.ref i2) >>= _) _ _ _
    refine wpAny_bind (text_end y2 hd (((h2.extBut s1.extBut D.i2z).extBut s2.extBut D.i12.symm).extBut s3.extBut D.TOi2.symm) e2 fun g4 e s4 st => ?_)
    obtain ⟨oe, ge, ce⟩ := st
    have z4 : IsZip g4 z TI TO .ellipsis := s4 _ _ D.i2z.symm (s3.extBut _ _ D.TOz.symm (s2.extBut _ _ D.i1z.symm z1))
    have nz : e ≠ z := fun x => by
      rw [x, z4] at ge
      cases ge
      simp at ce
    exact wpAny_setField_rec z4 (by simp) fun g5 _ s5 => q g5 _ e (fun c o n1 n2 n3 n4 x => s5.extBut _ _ n1 (s4 _ _ n4 (s3.extBut _ _ n2 (s2.extBut _ _ n3 (s1.extBut _ _ n1 x))))) ⟨oe, s5.extBut _ _ nz ge, ce⟩
theorem next_zipS {z TI TO i1 i2 l1 l2 : Addr} {ty1 ty2 : String} {x1 x2 : Str} {t1 t2 : Tok} {k1 k2 c1 c2 : Nat} {a b : Value} {Q : Option Value → Shared → Prop} (D : ZipApart z TI TO i1 i2 l1 l2) (y1 : TextTy ty1) (y2 : TextTy ty2)
    (hz : IsZip s.heap z TI TO .none) (hTI : IsPair s.heap TI (.ref i1) (.ref i2)) (hTO : IsPair s.heap TO a b) (h1 : s.heap.IsStrIter i1 ty1 x1 t1 k1) (h2 : s.heap.IsStrIter i2 ty2 x2 t2 k2)
    (e1 : x1.cps[k1]? = some c1) (e2 : x2.cps[k2]? = some c2)
    (q : ∀ g n u1 u2, IsZip g z TI TO (rawInt s.heap.objs.size) → (∃ a b, IsPair g TO a b) → g.IsStrIter i1 ty1 x1 t1 (k1 + 1) → g.IsStrIter i2 ty2 x2 t2 (k2 + 1) → IsPair g s.heap.objs.size (.str ⟨#[c1]⟩ u1) (.str ⟨#[c2]⟩ u2) →
      (∀ c o, c ≠ z → c ≠ TO → c ≠ i1 → c ≠ i2 → s.heap.get? c = some o → g.get? c = some o) → Q (some (.ref s.heap.objs.size)) { s with heap := g, toks := n }) :
    wpAny (model prog w) A (pyNext (.ref z)) Q E s := by
  have ty : s.TypeIs (.ref z) "zip" := ⟨_, hz, rfl⟩
  unfold pyNext
  refine wpAny_bind (wpAny_attempt (wpAny_callSpecial?_slot (name := Str.ofString "__next__") ty F.slot_zip_next (wpAny_call_entry F.slot_zip_next ty F.entry_zip_next ?_ (F.args_zip_next_1 _))))
  exact zipS_item D y1 y2 hz hTI hTO h1 h2 e1 e2 fun g n u1 u2 p1 p2 p3 p4 p5 p6 => wpAny_pure (q g n u1 u2 p1 p2 p3 p4 p5 p6)
theorem next_zipS_end {z TI TO i1 i2 l1 l2 : Addr} {ty1 ty2 : String} {x1 x2 : Str} {t1 t2 : Tok} {k1 k2 : Nat} {a b : Value} {Q : Option Value → Shared → Prop} (hd : A.handled = none) (D : ZipApart z TI TO i1 i2 l1 l2) (y1 : TextTy ty1) (y2 : TextTy ty2)
    (hz : IsZip s.heap z TI TO .none) (hTI : IsPair s.heap TI (.ref i1) (.ref i2)) (hTO : IsPair s.heap TO a b) (h1 : s.heap.IsStrIter i1 ty1 x1 t1 k1) (h2 : s.heap.IsStrIter i2 ty2 x2 t2 k2)
    (fin : x1.cps[k1]? = none ∨ x2.cps[k2]? = none) (q : ∀ g n, (∀ c o, c ≠ z → c ≠ TO → c ≠ i1 → c ≠ i2 → s.heap.get? c = some o → g.get? c = some o) → Q none { s with heap := g, toks := n }) : wpAny (model prog w) A (pyNext (.ref z)) Q E s := by
  have ty : s.TypeIs (.ref z) "zip" := ⟨_, hz, rfl⟩
  unfold pyNext
  refine wpAny_bind (wpAny_attempt (wpAny_callSpecial?_slot (name := Str.ofString "__next__") ty F.slot_zip_next (wpAny_call_entry F.slot_zip_next ty F.entry_zip_next ?_ (F.args_zip_next_1 _))))
  refine zipS_end hd D y1 y2 hz hTI hTO h1 h2 fin fun g n e k st => ?_
  obtain ⟨o, ho, hc⟩ := st
  exact wpAny_bind (wpAny_isInstance (T := "StopIteration") (b := true) ⟨o, ho, hc⟩ isSubtype_stop (wpAny_pure (q g n k)))
end
end PSZ

set_option Elab.async false
set_option linter.all false
set_option maxRecDepth 100000
set_option maxHeartbeats 4000000
namespace PSZ
open PySem
open PySem.Sem (wp)
theorem textTy (x : Str) : TextTy (strIterType x) := by
  unfold strIterType
  split
  · exact .inl rfl
  · exact .inr rfl
def walker (x : Str) (t : Tok) : Obj := { cls := .type (strIterType x), data := .fields #[.str x t, .int 0 0] }
def two (a b : Value) : Obj := { cls := .type "tuple", data := .seq #[a, b] }
def pairs (h : Heap) (x y : Str) (t u : Tok) : Heap := (((h.push (walker x t)).push (walker y u)).push (two (.ref h.objs.size) (.ref (h.push (walker x t)).objs.size))).push (two .none .none)
def zipped (h : Heap) (x y : Str) (t u : Tok) : Heap :=
  (pairs h x y t u).push { cls := .type "zip", data := .fields #[.none, .bool false, .bool false, .ref ((h.push (walker x t)).push (walker y u)).objs.size, .ref (((h.push (walker x t)).push (walker y u)).push (two (.ref h.objs.size) (.ref (h.push (walker x t)).objs.size))).objs.size] }
theorem new_zipS (x y : Str) (t u : Tok) : Meets (Builtin.«zip.__new__» ⟨[.type "zip", .str x t, .str y u], []⟩) (fun _ R s => R (.ok (.ret (.ref (pairs s.heap x y t u).objs.size))) { s with heap := zipped s.heap x y t u }) :=
  .of_wp fun prog w A R s h => by
    obtain ⟨hp, g, d, tk, os⟩ := s
    have sub := sub_zip
    wp_walk using wpAny_pyIter_strU
    exact ⟨_, rfl, h⟩
section
variable {prog : Program} {w : World} {A : Around} {E : Value → Shared → Prop} {s : Shared}
theorem call_zipS {x y : Str} {t u : Tok} {Q : Value → Shared → Prop}
    (q : ∀ g, IsZip g (s.heap.objs.size + 4) (s.heap.objs.size + 2) (s.heap.objs.size + 3) .none → IsPair g (s.heap.objs.size + 2) (.ref s.heap.objs.size) (.ref (s.heap.objs.size + 1)) → IsPair g (s.heap.objs.size + 3) .none .none →
      g.IsStrIter s.heap.objs.size (strIterType x) x t 0 → g.IsStrIter (s.heap.objs.size + 1) (strIterType y) y u 0 → (∀ c o, s.heap.get? c = some o → g.get? c = some o) → Q (.ref (s.heap.objs.size + 4)) { s with heap := g }) :
    wpAny (model prog w) A (call (.type "zip") [.str x t, .str y u]) Q E s := by
  refine callType_new F.called_zip (by decide) (F.typeCall_zip_2 _ _) (F.newCall_zip_2 _ _) (fun obj => F.args_object_init_3 obj _ _) F.entry_zip_new (new_zipS x y t u) ?_
  have n1 : (s.heap.push (walker x t)).objs.size = s.heap.objs.size + 1 := Heap.size_push ..
  have n2 : ((s.heap.push (walker x t)).push (walker y u)).objs.size = s.heap.objs.size + 2 := by rw [Heap.size_push, n1]
  have n3 : (((s.heap.push (walker x t)).push (walker y u)).push (two (.ref s.heap.objs.size) (.ref (s.heap.push (walker x t)).objs.size))).objs.size = s.heap.objs.size + 3 := by rw [Heap.size_push, n2]
  have n4 : (pairs s.heap x y t u).objs.size = s.heap.objs.size + 4 := by
    unfold pairs
    rw [Heap.size_push, n3]
  have old : ∀ {c : Addr} {o : Obj}, (pairs s.heap x y t u).get? c = some o → (zipped s.heap x y t u).get? c = some o := fun e => Heap.get?_push_of_some _ e
  have a5 : (zipped s.heap x y t u).get? (pairs s.heap x y t u).objs.size = some _ := Heap.get?_push_size _ rfl
  have a4 : (zipped s.heap x y t u).get? _ = some _ := old (Heap.get?_push_size _ rfl)
  have a3 : (zipped s.heap x y t u).get? _ = some _ := old (Heap.get?_push_of_some _ (Heap.get?_push_size _ rfl))
  have a2 : (zipped s.heap x y t u).get? _ = some _ := old (Heap.get?_push_of_some _ (Heap.get?_push_of_some _ (Heap.get?_push_size _ rfl)))
  have a1 : (zipped s.heap x y t u).get? s.heap.objs.size = some _ := old (Heap.get?_push_of_some _ (Heap.get?_push_of_some _ (Heap.get?_push_of_some _ (Heap.get?_push_size _ rfl))))
  show _ ∧ _
  rw [n2, n3, n4] at a5
  rw [n3] at a4
  rw [n2, n1] at a3
  rw [n1] at a2
  rw [n4]
  exact ⟨⟨_, a5, rfl⟩, q _ a5 a3 a4 ⟨_, a1, rfl, rfl⟩ ⟨_, a2, rfl, rfl⟩ fun c o e => old (Heap.get?_push_of_some _ (Heap.get?_push_of_some _ (Heap.get?_push_of_some _ (Heap.get?_push_of_some _ e))))⟩
end
end PSZ
namespace PSG
open PySem PySem.Spec L2
open PyProof.Rows (IntsAre AllBare)
/-- the pairs of two texts -/
def Itzs (x y : Str) : It :=
  ⟨fun i _ => i < x.cps.size ∧ i < y.cps.size, fun i H v H' => ∃ T c d, v = .ref T ∧ H T = none ∧ H' = upd H T (.tup [.str ⟨#[c]⟩, .str ⟨#[d]⟩]) ∧ x.cps[i]? = some c ∧ y.cps[i]? = some d, fun i _ => x.cps.size ≤ i ∨ y.cps.size ≤ i⟩
theorem turn_zipS {P : Program} {w : World} {K : PySem.W.Frag} {tg : List Expr} {n : Nat} {tp : Pos} {x y : Str} {t u : Tok} {l1 l2 z TI TO i1 i2 : Addr} (D : ZipApart z TI TO i1 i2 l1 l2) :
    Turn P w K (.Tuple tg n tp) (Itzs x y) [z, TI, TO, i1, i2] z (fun i h => IsZip h z TI TO .none ∧ IsPair h TI (.ref i1) (.ref i2) ∧ (∃ a b, IsPair h TO a b) ∧ h.IsStrIter i1 (strIterType x) x t i ∧ h.IsStrIter i2 (strIterType y) y u i) where
  mem := by simp
  obj := fun i h st c hc => by
    obtain ⟨hz, hTI, ⟨a, b, hTO⟩, ⟨o1, e1, _, d1⟩, ⟨o2, e2, _, d2⟩⟩ := st
    have which : c = z ∨ c = TI ∨ c = TO ∨ c = i1 ∨ c = i2 := by simpa using hc
    rcases which with rfl | rfl | rfl | rfl | rfl
    · exact ⟨_, hz, fun v q => nomatch q⟩
    · exact ⟨_, hTI, fun v q => nomatch q⟩
    · exact ⟨_, hTO, fun v q => nomatch q⟩
    · exact ⟨o1, e1, fun v q => by rw [d1] at q; cases q⟩
    · exact ⟨o2, e2, fun v q => by rw [d2] at q; cases q⟩
  keep := fun i h h' st k => by
    obtain ⟨hz, hTI, ⟨a, b, hTO⟩, h1, h2⟩ := st
    exact ⟨k z (by simp) _ hz, k TI (by simp) _ hTI, ⟨a, b, k TO (by simp) _ hTO⟩, PSZ.at_text h1 fun o q => k i1 (by simp) o q, PSZ.at_text h2 fun o q => k i2 (by simp) o q⟩
  item := by
    intro X e1 e2 e3 calm i pins s σ H E I fp st go
    subst e1 e2 e3
    obtain ⟨hz, hTI, ⟨a, b, hTO⟩, h1, h2⟩ := st
    obtain ⟨lx, ly⟩ := go
    have ex : x.cps[i]? = some x.cps[i] := Array.getElem?_eq_getElem lx
    have ey : y.cps[i]? = some y.cps[i] := Array.getElem?_eq_getElem ly
    have lz : z < s.heap.objs.size := Heap.lt_size hz
    refine PSZ.next_zipS D (PSZ.textTy x) (PSZ.textTy y) hz hTI hTO h1 h2 ex ey fun g m u1 u2 z' o' j1 j2 pr k => ?_
    refine ⟨_, rfl, wpAny_letOwnedTupleGo_zip (s := { s with heap := g, toks := m }) z' fun g2 z2 sb => ?_⟩
    have pr2 : g2.get? s.heap.objs.size = some { cls := .type "tuple", data := .seq #[.str ⟨#[x.cps[i]]⟩ u1, .str ⟨#[y.cps[i]]⟩ u2] } := (sb.2 _ (Nat.ne_of_gt lz)).trans pr
    have new : ObjOk X.prog X.w (upd H s.heap.objs.size (.tup [.str ⟨#[x.cps[i]]⟩, .str ⟨#[y.cps[i]]⟩])) g2 s.heap.objs.size (.tup [.str ⟨#[x.cps[i]]⟩, .str ⟨#[y.cps[i]]⟩]) :=
      ⟨by show 2 ≤ sizeLine; decide, _, .cons ⟨u1, rfl⟩ (.cons ⟨u2, rfl⟩ .nil), ⟨_, pr2, rfl, _, rfl⟩⟩
    have out : ∀ c, c ∉ [z, TI, TO, i1, i2] → c ≠ z ∧ c ≠ TO ∧ c ≠ i1 ∧ c ≠ i2 := fun c n => by
      simp only [List.mem_cons, List.not_mem_nil, or_false, not_or] at n
      exact ⟨n.1, n.2.2.1, n.2.2.2.1, n.2.2.2.2⟩
    have J := I.turnedNew (t' := m) (ch := [z, TI, TO, i1, i2]) (fun c o n q => (sb.2 c (out c n).1).trans (k c o (out c n).1 (out c n).2.1 (out c n).2.2.1 (out c n).2.2.2 q)) fp (Nat.le_refl _) new
    refine ⟨.ref s.heap.objs.size, _, J, rfl, ⟨_, _, _, rfl, I.hok.fresh (Nat.le_refl _), rfl, ex, ey⟩, ⟨z2, (sb.2 _ D.TIz).trans (k _ _ D.TIz D.TITO D.TIi1 D.TIi2 hTI), ?_, PSZ.at_text j1 fun o q => (sb.2 _ D.i1z).trans q, PSZ.at_text j2 fun o q => (sb.2 _ D.i2z).trans q⟩, fun c m => ?_⟩
    · obtain ⟨a', b', q⟩ := o'
      exact ⟨a', b', (sb.2 _ D.TOz).trans q⟩
    · have lt : c < s.heap.objs.size := by
        have which : c = z ∨ c = TI ∨ c = TO ∨ c = i1 ∨ c = i2 := by simpa using m
        rcases which with rfl | rfl | rfl | rfl | rfl
        · exact lz
        · exact Heap.lt_size hTI
        · exact Heap.lt_size hTO
        · obtain ⟨_, q, _⟩ := h1
          exact Heap.lt_size q
        · obtain ⟨_, q, _⟩ := h2
          exact Heap.lt_size q
      rw [upd_ne (Nat.ne_of_lt lt)]
      exact (fp c m).1
  done := by
    intro X e1 e2 e3 calm i pins s σ H E I fp st stop
    subst e1 e2 e3
    obtain ⟨hz, hTI, ⟨a, b, hTO⟩, h1, h2⟩ := st
    have fin : x.cps[i]? = none ∨ y.cps[i]? = none := stop.imp Array.getElem?_eq_none Array.getElem?_eq_none
    have out : ∀ c, c ∉ [z, TI, TO, i1, i2] → c ≠ z ∧ c ≠ TO ∧ c ≠ i1 ∧ c ≠ i2 := fun c n => by
      simp only [List.mem_cons, List.not_mem_nil, or_false, not_or] at n
      exact ⟨n.1, n.2.2.1, n.2.2.2.1, n.2.2.2.2⟩
    exact PSZ.next_zipS_end (I.ok.hd calm) D (PSZ.textTy x) (PSZ.textTy y) hz hTI hTO h1 h2 fin fun g m k => ⟨rfl, I.turnedL (t' := m) (ch := [z, TI, TO, i1, i2]) (fun c o n q => k c o (out c n).1 (out c n).2.1 (out c n).2.2.1 (out c n).2.2.2 q) fp⟩
  self := fun A i s Q E st h => wpAny_pyIter_zip st.1 h
def iZipS (ta : TA) : TI := fun σ H R => ta σ H fun vs H1 => ∃ x y, vs = [.str x, .str y] ∧ R (Itzs x y) H1
theorem pi_zipS {X : Cx} {e e2 : Expr} {ta : TA} {p pos tp : Pos} {tg : List Expr} {n : Nat} (hg : Gl X "zip") (hm : X.mg "zip" = none) (ha : PA X [e, e2] ta)
    (se : starEach [e, e2] X.env = (false, eval e X.env) :: starEach [e2] X.env := by rfl) (sn : (backTo pos (starEach [e2] X.env)).any (·.1) = false := by rfl) :
    PI X (.Tuple tg n tp) (.Call (.Name "zip" p) [e, e2] [] pos) (iZipS ta) := by
  refine ⟨fun pins s σ H R I h => ?_⟩
  refine PyProof.Rows.Call_ (ld_blt I hg hm PyProof.Rows.boot_zip (PyProof.Rows.callWith_type1 (thn (ha.run pos pins s σ H _ I h) fun us s1 ⟨vs, H1, I1, r1, x, y, ev, q⟩ => ?_) se sn))
  subst ev
  obtain ⟨u1, u2, rfl, rx, ry⟩ := vals2 r1
  obtain ⟨t, rfl⟩ := rx
  obtain ⟨u, rfl⟩ := ry
  have pos0 : 0 < s1.heap.objs.size := Nat.lt_of_le_of_lt (Nat.zero_le _) I1.big
  refine PSZ.call_zipS fun g hz hTI hTO h1 h2 k => wpAny_pyIter_zip hz ?_
  have I2 : Inv X pins σ H1 { s1 with heap := g } := I1.kept (t' := s1.toks) k
  refine ⟨s1.heap.objs.size + 4, [s1.heap.objs.size + 4, s1.heap.objs.size + 2, s1.heap.objs.size + 3, s1.heap.objs.size, s1.heap.objs.size + 1], _, _, H1, rfl, I2, turn_zipS (PySem.W.ktu_apart s1.heap.objs.size 0 0 pos0 pos0), ⟨hz, hTI, ⟨_, _, hTO⟩, h1, h2⟩, fun c m => ?_, q⟩
  have le : s1.heap.objs.size ≤ c := by
    simp only [List.mem_cons, List.not_mem_nil, or_false] at m
    rcases m with z | z | z | z | z
    · exact z ▸ Nat.le_add_right _ _
    · exact z ▸ Nat.le_add_right _ _
    · exact z ▸ Nat.le_add_right _ _
    · exact z ▸ Nat.le_refl _
    · exact z ▸ Nat.le_add_right _ _
  exact I1.fpOk le (I1.hok.fresh le)
/-- a loop over the pairs of two texts -/
theorem for_zipS {x y : Str} {g : TG} {tb : TS} {D : Ends} {σ : L2.St} {H : Hp} (Pv : Nat → L2.St → Hp → Prop) (h0 : Pv 0 σ H)
    (hs : ∀ (i c d : Nat) (T : Addr) (σ : L2.St) (H : Hp), x.cps[i]? = some c → y.cps[i]? = some d → Pv i σ H → H T = none → g (.ref T) σ (upd H T (.tup [.str ⟨#[c]⟩, .str ⟨#[d]⟩])) fun σ2 H2 => tb { D with nx := Pv (i + 1), ct := Pv (i + 1), bk := D.nx } σ2 H2)
    (hd : ∀ i σ H, x.cps.size ≤ i ∨ y.cps.size ≤ i → i ≤ x.cps.size → i ≤ y.cps.size → Pv i σ H → D.nx σ H) :
    ∃ W : Nat → Nat → L2.St → Hp → Prop, (∃ m, W 0 m σ H) ∧ ∀ i m σ H, W i m σ H →
      ((Itzs x y).stop i H ∧ D.nx σ H) ∨ ((Itzs x y).go i H ∧ ∃ N : L2.St → Hp → Prop, (∀ σ' H', N σ' H' → ∃ m', m' < m ∧ W (i + 1) m' σ' H') ∧ ∀ v H', (Itzs x y).yld i H v H' → g v σ H' fun σ2 H2 => tb { D with nx := N, ct := N, bk := D.nx } σ2 H2) := by
  refine ⟨fun i m σ H => m = x.cps.size - i ∧ i ≤ x.cps.size ∧ i ≤ y.cps.size ∧ Pv i σ H, ⟨x.cps.size, rfl, Nat.zero_le _, Nat.zero_le _, h0⟩, ?_⟩
  rintro i m σ H ⟨rfl, l1, l2, p⟩
  by_cases go : i < x.cps.size ∧ i < y.cps.size
  · refine .inr ⟨go, Pv (i + 1), fun σ' H' p' => ⟨x.cps.size - (i + 1), by omega, rfl, go.1, go.2, p'⟩, fun v H' yl => ?_⟩
    obtain ⟨T, c, d, rfl, hT, rfl, e1, e2⟩ := yl
    exact hs i c d T σ H e1 e2 p hT
  · have fin : x.cps.size ≤ i ∨ y.cps.size ≤ i := by omega
    exact .inl ⟨fin, hd i σ H fin l1 l2 p⟩
end PSG

set_option Elab.async false
set_option linter.all false
set_option maxRecDepth 100000
set_option maxHeartbeats 4000000
namespace PSG
open PySem PySem.Spec L2
open PyProof.Rows (IntsAre AllBare)
/-! ### own exceptions of any base, raised -/
/-- what an exception that is held bears: its dict, if it has attributes -/
def ExS (H : Hp) (d : Option Addr) (fs : List (Str × V)) : Prop := (d = none ∧ fs = []) ∨ ∃ dx, d = some dx ∧ fs ≠ [] ∧ H dx = some (exd dx fs)
theorem ExS.same {H H' : Hp} {d : Option Addr} {fs : List (Str × V)} (x : ExS H d fs) (s : Same H H') : ExS H' d fs := by
  rcases x with x | ⟨dx, e, n, h⟩
  · exact .inl x
  · exact .inr ⟨dx, e, n, s _ _ h⟩
/-- the new exception is no longer tracked, its dict stands -/
theorem let_go {X : Cx} {pins : List (Addr × Obj)} {σ : L2.St} {H1 H2 : Hp} {hp hp2 h2 : Heap} {g1 g2 : Array GenState} {r1 r2 : Drawn} {t1 t2 : Nat} {os1 os2 : OsState} {a C : Addr} {d : Option Addr} (I : Inv X pins σ H1 ⟨hp, g1, r1, t1, os1⟩)
    (above : hp.objs.size ≤ a) (old : ∀ b o, hp.get? b = some o → hp2.get? b = some o) (un : Un (frs X.stack) [] (upd H1 a (exo a C none)) H2 hp2 h2) (hok : HOk X.prog X.w H2 h2) (eos : os2 = os1) (bare : AllBare g2) (ea : H2 a = some (exo a C d)) :
    ∃ (t0 : Addr) (G : Heap), Inv X pins σ (del H2 a) ⟨G, g2, r2, t2, os2⟩ ∧ (∀ b o, G.get? b = some o → h2.get? b = some o) ∧ G.get? a = none ∧
      h2.get? a = some ({ cls := .ref C, dict := d, data := .fields #[.ref t0, .none, .none, .none, .bool false, .none] } : Obj) := by
  obtain ⟨t0, at_⟩ := exo_at hok ea
  have n1 : H1 a = none := I.hok.fresh above
  obtain ⟨G, yes, no⟩ := restrict h2 fun b => decide (b ≠ a)
  have gk : ∀ b, b ≠ a → G.get? b = h2.get? b := fun b n => yes b (decide_eq_true n)
  have ga : G.get? a = none := no a (by simp)
  have off : ∀ {b : Addr} {o : Obj}, hp.get? b = some o → b ≠ a := fun {b o} z => Nat.ne_of_lt (Nat.lt_of_lt_of_le (Heap.lt_size z) above)
  have up : ∀ {b : Addr} {u : Option HO}, b ≠ a → H1 b = u → upd H1 a (exo a C none) b = u := fun {b u} n e => (upd_ne n).trans e
  have U : Un (frs X.stack) [] H1 (del H2 a) hp G := {
    keep := fun b o z n f x => (gk b (off z)).trans (un.keep b o (old b o z) (up (off z) n) f x)
    slot := fun b o z n f x => by
      rw [gk b (off z)]
      exact un.slot b o (old b o z) (up (off z) n) f x
    free := fun b o z n x => (del_ne (off z)).trans (un.free b o (old b o z) (up (off z) n) x)
    there := fun b o z x => by
      rw [gk b (off z)]
      exact un.there b o (old b o z) x
    tups := fun b xs z => (del_ne (ne_of_none z n1)).trans (un.tups b xs (up (ne_of_none z n1) z))
    frzs := fun b o v z => (del_ne (ne_of_none z n1)).trans (un.frzs b o v (up (ne_of_none z n1) z))
    tbls := fun b ps z => by
      rw [del_ne (ne_of_none z n1)]
      exact un.tbls b ps (up (ne_of_none z n1) z) }
  have hok2 : HOk X.prog X.w (del H2 a) G := fun b o z => by
    have nb : b ≠ a := fun e => by
      rw [e, del_same] at z
      cases z
    rw [del_ne nb] at z
    refine (hok b o z).stay (fun c v hc y => ?_) (fun c hc => (del_ne (at_ne ea hc exo_own)).trans hc) fun c xs hc => (del_ne (at_ne ea hc exo_tup)).trans hc
    have nc : c ≠ a := by
      rcases hc with hc | hc
      · rw [hc]
        exact nb
      · exact at_ne ea hc exo_own
    exact (gk c nc).trans y
  refine ⟨t0, G, I.call' (ch := []) eos U hok2 bare (fun b z => absurd z (by simp)), fun b o z => ?_, ga, at_⟩
  by_cases e : b = a
  · rw [e, ga] at z
    cases z
  · exact (gk b e).symm.trans z
/-- C(e, ..): the exception's class, its dict, and what the state is then -/
def tPmk (C : Addr) (fn : List Str) (t : TA) : L2.St → Hp → XK → Prop := fun σ H Q => t σ H fun vs H1 => vs.length = fn.length ∧ fn.length ≤ 1000 ∧ ∀ d H3, Same H1 H3 → ExS H3 d (fn.zip vs).reverse → Q (.ref C) d H3
section
variable {X : Cx} {x : Str} {C fI : Addr} {n : Nat} {fd : FuncData} {ps fn : List Str} {B newId initId : String} {bmB : List Value} {p pos : Pos}
theorem pmade {pins : List (Addr × Obj)} {σ : L2.St} {H1 : Hp} {hp : Heap} {g : Array GenState} {dr : Drawn} {tk : Nat} {os : OsState} {Q : XK} {us : List Value} {vs : List V} (T : Xk X.K C fI B newId initId bmB)
    (F : FnOk X.prog X.w X.K X.mg X.base CX0 n fI fd ps (spXI C fn)) (room : Room (n + 1) X.A) (I1 : Inv X pins σ H1 ⟨hp, g, dr, tk, os⟩) (lay : List Value)
    (bi : ∀ s : Shared, X.K.In s.heap → BindsTo s fd ⟨Value.ref (hp.objs.size + 1) :: us, []⟩ (ps.zip (.ref (hp.objs.size + 1) :: us))) (va : Vals vs us) (len : vs.length = fn.length)
    (ho : ∀ d H3, Same H1 H3 → ExS H3 d (fn.zip vs).reverse → Q (.ref C) d H3) :
    codeAny (model X.prog X.w) (X.A.under (.builtin "type.__call__" ⟨.ref C :: lay, []⟩)) (.call (.ref fI) ⟨Value.ref (hp.objs.size + 1) :: us, []⟩)
      (PySem.W.InitBack (hp.objs.size + 1) fun r s' => match r with | .ok (.ret v) => MkP X pins σ Q v s' | .ok _ => False | .error e => X.xe e s')
      ⟨(hp.push (PySem.W.kdv_tup lay)).push (PySem.HandSPX.excO C hp.objs.size), g, dr, tk, os⟩ := by
  have big : hp.objs.size ≤ hp.objs.size + 1 := Nat.le_succ _
  have free : H1 (hp.objs.size + 1) = none := I1.hok.fresh big
  have old : ∀ b o, hp.get? b = some o → ((hp.push (PySem.W.kdv_tup lay)).push (PySem.HandSPX.excO C hp.objs.size)).get? b = some o := fun b o e => Heap.get?_push_of_some _ (Heap.get?_push_of_some _ e)
  have new : ((hp.push (PySem.W.kdv_tup lay)).push (PySem.HandSPX.excO C hp.objs.size)).get? (hp.objs.size + 1) = some (PySem.HandSPX.excO C hp.objs.size) := by heap_get
  have I2 := I1.laid (t' := tk) (a := hp.objs.size + 1) (o := exo (hp.objs.size + 1) C none) (h' := (hp.push (PySem.W.kdv_tup lay)).push (PySem.HandSPX.excO C hp.objs.size)) old big (exo_ok new)
  refine codeAny_mono (F.run _ X.stack _ _ _ (Value.ref (hp.objs.size + 1) :: us) (V.ref (hp.objs.size + 1) :: vs) (fun v H2 => v = .non ∧ (∀ b o, b ≠ hp.objs.size + 1 → H1 b = some o → H2 b = some o) ∧ ExV H2 (hp.objs.size + 1) C (fn.zip vs).reverse) (fun _ _ _ => False)
    (room.make C lay []) (I2.env0.make C lay []) (bi _ I2.kIn) (.cons rfl va) ⟨_, vs, rfl, len, upd_same, fun H2 k ex => ⟨rfl, fun b o nb e => k b o nb ((upd_ne nb).trans e), ex⟩⟩) fun r s' z => ?_
  match r, z with
  | .ok (.ret u), z =>
    obtain ⟨v, H2, eos, bare, un, hok, rel, ev, k, ex⟩ := z
    subst ev
    obtain ⟨h2, g2, r2, t2, os2⟩ := s'
    have fin : ∀ d, H2 (hp.objs.size + 1) = some (exo (hp.objs.size + 1) C d) → ExS (del H2 (hp.objs.size + 1)) d (fn.zip vs).reverse → MkP X pins σ Q (.ref (hp.objs.size + 1)) ⟨h2, g2, r2, t2, os2⟩ := fun d ea xs => by
      obtain ⟨t0, G, J, sub, ga, at_⟩ := let_go (r2 := r2) (t2 := t2) I1 big old un hok eos bare ea
      refine ⟨hp.objs.size + 1, _, _, ⟨G, g2, r2, t2, os2⟩, _, .ref C, d, rfl, J, sub, ga, at_, ⟨rfl, rfl⟩, rfl, rfl, del_same, rfl, bare, raises_own T.exc T.ty, ho d _ (fun b o e => ?_) xs⟩
      have nb : b ≠ hp.objs.size + 1 := ne_of_none e free
      exact (del_ne nb).trans (k b o nb e)
    refine ⟨rel, ?_⟩
    rcases ex with ⟨e, ea⟩ | ⟨d, e, ea, ed⟩
    · exact fin none ea (.inl ⟨rfl, e⟩)
    · refine fin (some d) ea (.inr ⟨d, rfl, e, (del_ne fun z => ?_).trans ed⟩)
      obtain ⟨t0, at_⟩ := exo_at hok ea
      obtain ⟨mA, ⟨o, es, ep, e1, e2, _⟩, _⟩ := exd_at hok ed
      rw [z, at_] at e1
      have e3 := Option.some.inj e1
      subst e3
      cases e2
  | .ok .next, z => exact z.elim
  | .ok .brk, z => exact z.elim
  | .ok .cont, z => exact z.elim
  | .error er, z => exact z.elim
theorem pmk_xk {e : Expr} {es : List Expr} {t : TA} (T : Xk X.K C fI B newId initId bmB) (F : FnOk X.prog X.w X.K X.mg X.base CX0 n fI fd ps (spXI C fn)) (room : Room (n + 1) X.A) (bi : Binds X.K fd ps []) (hps : ps.length = fn.length + 1)
    (hg : Gl X x) (hm : X.mg x = some (.ref C)) (ha : PA X (e :: es) t) (nd : (x == ("__debug__" : Str)) = false := by decide)
    (se : starEach (e :: es) X.env = (false, eval e X.env) :: starEach es X.env := by rfl) (sn : (backTo pos (starEach es X.env)).any (·.1) = false := by rfl) :
    PMk X (.Call (.Name x p) (e :: es) [] pos) (tPmk C fn t) := by
  intro pins s σ H Q I h
  refine wpAny_Call_Name_kw (ld_glob I hg hm ?_ nd)
  refine PySem.W.callWith_K (h₀ := X.base) I.ok.mod.kin T.keep (thn (ha.run pos pins s σ H _ I h) fun us s1 ⟨vs, H1, I1, r1, hl, hz, q1⟩ => ⟨I1.kIn, ?_⟩) se sn
  show wpAny _ _ (call (.ref C) us) _ _ _
  obtain ⟨hp, g, dr, tk, os⟩ := s1
  obtain ⟨nm, N, qn, bs, bm, hdct, sb, sub, ab, col, dd, k0, k1, k2, k3, k5, hC, same⟩ := PySem.W.excInit_of I1.kIn T.made
  have lu : us.length = fn.length := r1.length.symm.trans hl
  refine wpAny_call (PySem.HandSPX.call_own T.fb same hC (PySem.W.looks_findIn I1.kIn T.init) (fun self => PySem.W.bind_fn I1.kIn self T.fn) (by rw [sizeLine_eq]; omega) ?_)
  refine codeAny_mono (pmade (Q := Q) T F room I1 us (us := us) (fun s2 k2 => ?_) r1 hl q1) fun r s' z => z
  have z := bi s2 (Value.ref (hp.objs.size + 1) :: us) k2 (by rw [List.append_nil, List.length_cons, lu, hps])
  rw [List.append_nil] at z
  exact z
theorem pmk_xk0 (T : Xk X.K C fI B newId initId bmB) (F : FnOk X.prog X.w X.K X.mg X.base CX0 n fI fd ps (spXI C [])) (room : Room (n + 1) X.A) (bi : Binds X.K fd ps []) (hps : ps.length = 1)
    (hg : Gl X x) (hm : X.mg x = some (.ref C)) (nd : (x == ("__debug__" : Str)) = false := by decide) : PMk X (.Call (.Name x p) [] [] pos) (tPmk C [] tNil) := by
  intro pins s σ H Q I h
  refine wpAny_Call_Name_kw (ld_glob I hg hm ?_ nd)
  refine PySem.W.callWith_K0 I.kIn T.keep ?_
  obtain ⟨hp, g, dr, tk, os⟩ := s
  obtain ⟨nm, N, qn, bs, bm, hdct, sb, sub, ab, col, dd, k0, k1, k2, k3, k5, hC, same⟩ := PySem.W.excInit_of I.kIn T.made
  refine wpAny_call (PySem.HandSPX.call_own T.fb same hC (PySem.W.looks_findIn I.kIn T.init) (fun self => PySem.W.bind_fn I.kIn self T.fn) (Nat.zero_le _) ?_)
  refine codeAny_mono (pmade (Q := Q) (vs := []) T F room I [] (us := []) (fun s2 k2 => ?_) .nil rfl h.2.2) fun r s' z => z
  exact bi s2 [Value.ref (hp.objs.size + 1)] k2 (by rw [List.append_nil, hps]; rfl)
end
/-! ### in an except suite -/
section
variable {X : Cx} {a : Addr} {oe : Obj} {cls : Value} {d : Option Addr} {pn : List (Addr × Obj)}
theorem held {D : Addr} {fs : List (Str × V)} {pins : List (Addr × Obj)} {σ : L2.St} {H : Hp} {s : Shared} (hz : Zc (.ref D) d oe) (hf : ∃ vs, oe.data = .fields vs) (I : Inv (X.suite a ((a, oe) :: pn)) pins σ H s) (x : ExS H d fs) :
    ∃ od, PySem.W.InstAt s.heap a oe D od := by
  obtain ⟨vs, hv⟩ := hf
  obtain ⟨at_, _⟩ := I.pin (a, oe) (List.mem_append_left _ List.mem_cons_self)
  have nc : PySem.W.notCls oe = true := by
    unfold PySem.W.notCls
    rw [hv]
  rcases x with ⟨rfl, _⟩ | ⟨dx, rfl, _, h⟩
  · exact ⟨none, at_, hz.1, nc, by rw [hz.2]; trivial⟩
  · obtain ⟨mA, hns, _⟩ := exd_at I.hok h
    obtain ⟨o, ho, _⟩ := lookIn_ns hns
    exact ⟨some o, at_, hz.1, nc, by rw [hz.2]; exact ho⟩
/-- isinstance(e, c) and isinstance(e, (c, ..)) of the exception that is held -/
def rHis (K : PySem.W.Frag) (a : Addr) (cls : Value) (d : Option Addr) : List V → Hp → VK → Prop := fun xs H Q => ∃ (D : Addr) (fs : List (Str × V)) (b : Bool), cls = .ref D ∧ ExS H d fs ∧ PySem.W.XcC K D ∧
  ((∃ (c : V) (u : Value), xs = [.ref a, c] ∧ ClsV c u ∧ PySem.W.kitOne K (.ref D) u = some b) ∨ ∃ (tp : Addr) (cs : List V) (us : List Value), xs = [.ref a, .ref tp] ∧ H tp = some (.tup cs) ∧ Paired ClsV cs us ∧ PySem.W.kitAny K (.ref D) us = some b) ∧ Q (.bl b) H
theorem call_his (hz : Zc cls d oe) (hf : ∃ vs, oe.data = .fields vs) : CallR (X.suite a ((a, oe) :: pn)) (.builtin "isinstance") (rHis X.K a cls d) := by
  intro pins s σ H xs us Q I r h
  obtain ⟨D, fs, b, rfl, x, T, k, q⟩ := h
  obtain ⟨od, J⟩ := held hz hf I x
  rcases k with ⟨c, u, rfl, k, e⟩ | ⟨tp, cs, ws, rfl, hT, k, e⟩
  · obtain ⟨u1, u2, rfl, r1, r2⟩ := vals2 r
    cases r1
    have e2 := k.eq r2
    subst e2
    exact PySem.W.kia_one (T.kit (x := a) (ox := oe)) I.kIn ⟨od, J⟩ e (fun z => nomatch z) fun tk => ⟨.bl b, H, I.tok tk, rfl, q⟩
  · obtain ⟨u1, u2, rfl, r1, r2⟩ := vals2 r
    cases r1
    cases r2
    obtain ⟨_, its, rv, o, h1, h2, n, h3⟩ := (show ObjOk X.prog X.w H s.heap tp (.tup cs) from I.hok tp _ hT)
    have e3 := ClsV.all k rv
    subst e3
    obtain ⟨oc, oD, dt, sl⟩ := o
    simp only at h2 h3
    subst h2 h3
    exact PySem.W.kia_tup (T.kit (x := a) (ox := oe)) I.kIn ⟨od, J⟩ h1 e (fun z => nomatch z) fun tk => ⟨.bl b, H, I.tok tk, rfl, q⟩
/-- e.n of the exception that is held -/
def tHfld (K : PySem.W.Frag) (a : Addr) (cls : Value) (d : Option Addr) (n : Str) (te : TE) : TE := fun σ H Q => te σ H fun x H1 => ∃ (D : Addr) (fs : List (Str × V)) (v : V), x = .ref a ∧ cls = .ref D ∧ ExS H1 d fs ∧ PySem.W.XcC K D ∧ PySem.W.findIn K (.ref D) n = some none ∧ fs.lookup n = some v ∧ Q v H1
theorem pe_hfld {e : Expr} {te : TE} {pos : Pos} {n : Str} (hz : Zc cls d oe) (hf : ∃ vs, oe.data = .fields vs) (he : PE (X.suite a ((a, oe) :: pn)) e te) (hb : attributeBase e n X.env (eval e X.env) = eval e X.env := by rfl) :
    PE (X.suite a ((a, oe) :: pn)) (.Attribute e n pos) (tHfld X.K a cls d n te) where
  run := fun pins s σ H Q I h => by
    refine attr_of hb (thn (he.run pins s σ H _ I h) fun u s1 hh => ?_)
    obtain ⟨x, H1, I1, rx, D, fs, v, ex, ec, xs, T, no, l, q⟩ := hh
    subst ex ec
    cases rx
    rcases xs with ⟨_, e⟩ | ⟨dx, ed, _, h2⟩
    · rw [e] at l
      cases l
    · subst ed
      obtain ⟨vs, hv⟩ := hf
      obtain ⟨at_, _⟩ := I1.pin (a, oe) (List.mem_append_left _ List.mem_cons_self)
      obtain ⟨mA, hns, rel⟩ := exd_at I1.hok h2
      obtain ⟨o, ho, look⟩ := lookIn_ns hns
      obtain ⟨w, hw, rw_⟩ := RelO.some_of (v := v) (o := mA n) (by rw [← l]; exact rel n)
      have J : PySem.W.InstAt s1.heap a oe D (some o) := ⟨at_, hz.1, by unfold PySem.W.notCls; rw [hv] <;> rfl, by rw [hz.2]; exact ho⟩
      exact PySem.HandSPX.exc_get I1.kIn J T.get T.get2 T.exc (PySem.W.findObj_own T.dict no rfl (by rw [look, hw])) (handed_of rw_) ⟨v, H1, I1.tok _, rw_, q⟩
end
/-! ### f(k = v, ..) of a def that may raise -/
section
variable {X : Cx} {CT : CXT} {k : Nat} {f : Addr} {fd : FuncData} {ps ks : List Str} {sp : Sp} {E : L2.St → XK} {x : Str} {p pos : Pos} {kws : List Keyword} {t : TA}
theorem pe_callW (F : FnOk X.prog X.w X.K X.mg X.base CT k f fd ps sp) (room : Room k X.A) (hg : Gl X x) (hm : X.mg x = some (.ref f)) (keep : PySem.W.keepIn X.K (.ref f) = true)
    (bi : ∀ (s : Shared) (ws : List Value), X.K.In s.heap → ws.length = ks.length → BindsTo s fd ⟨[], ks.zip ws⟩ (ps.zip ws)) (lk : ks.length = ps.length) (pass : ∀ σ, PassesAt CT X σ (E σ))
    (ha : PK X kws t) (hall : (backToKw pos (keywordEach kws X.env)).all (·.1.isSome) = true := by rfl) (hks : (backToKw pos (keywordEach kws X.env)).filterMap (·.1) = ks := by rfl)
    (nd : (x == ("__debug__" : Str)) = false := by decide) (sn : ((backTo pos (starEach [] X.env)).any (·.1) || (backToKw pos (keywordEach kws X.env)).any (·.1.isNone)) = false := by rfl) :
    PE X (.Call (.Name x p) [] kws pos) (tCallS sp E t) where
  run := fun pins s σ H Q I h => by
    refine wpAny_Call_Name_kw (ld_glob I hg hm ?_ nd)
    refine PySem.W.callWith_KW0 (h₀ := X.base) I.ok.mod.kin keep hall (thn (ha.run pos pins s σ H _ I h) fun ws s1 ⟨vs, H1, I1, r1, q1⟩ => ⟨I1.kIn, ?_⟩) sn
    rw [hks]
    show wpAny _ _ (call (.ref f) [] (ks.zip ws)) _ _ _
    have lw : ws.length = ks.length := (r1.length.symm.trans (F.len _ _ _ _ q1)).trans lk.symm
    refine wpAny_call (codeAny_mono (F.run X.A X.stack s1 H1 ⟨[], ks.zip ws⟩ ws vs Q (E σ) room I1.env0 (bi s1 ws I1.kIn lw) r1 q1) fun r s' z => ?_)
    match r, z with
    | .error er, z => exact pass σ pins H1 s1 er s' I1 z
    | .ok (.ret u), z => exact I1.after z
end
end PSG

set_option Elab.async false
set_option linter.all false
set_option maxRecDepth 100000
set_option maxHeartbeats 4000000
namespace PSG
open PySem PySem.Spec L2
open PyProof.Rows (IntsAre AllBare)
/-- repr(x) of data, also in an except suite -/
theorem call_reprH {X : Cx} (un : X.A.units + 200 < cLine) (gd : X.A.guards = some []) : CallR X (.builtin "repr") rRep := by
  intro pins s σ H xs us Q I r ho
  obtain ⟨x, d, far, rfl, dq, cl, sh, sz, dp, q⟩ := ho
  obtain ⟨u, rfl, rx⟩ := vals1 r
  obtain ⟨as, rd, no1⟩ := dq.reads I rx
  have nosys : d.hasDict = true → sysModules ∉ as := fun z => no1 (cl z)
  have fin : ∀ t, EP X pins σ Q (.str d.shown t) s := fun t => ⟨.str _, H, I, ⟨_, rfl⟩, q⟩
  have got : ∀ h' (t tk : Tok), (∀ b o, s.heap.get? b = some o → h'.get? b = some o) → EP X pins σ Q (.str d.shown t) { s with heap := h', toks := tk } := fun h' t tk k => ⟨.str _, H, I.kept k, ⟨_, rfl⟩, q⟩
  cases rd with
  | none => exact P.repr_of_none ⟨.str _, H, I.tok _, ⟨_, rfl⟩, by simpa only [PyData.shown] using q⟩
  | bool b =>
    refine P.repr_of_bool ⟨.str _, H, I.tok _, ⟨_, rfl⟩, ?_⟩
    simp only [PyData.shown] at q
    cases b <;> exact q
  | int i t => exact P.repr_of_int (by simpa [PyData.showable] using sh) ⟨.str _, H, I.tok _, ⟨_, rfl⟩, by simpa only [PyData.shown] using q⟩
  | str z t =>
    simp only [PyData.shown] at q sz
    exact P.repr_of_str ⟨.str _, H, I.tok _, ⟨_, rfl⟩, q⟩ sz
  | list h1 h2 h3 h4 => exact repr_of_reads' (Reads.list h1 h2 h3 h4) sh nosys gd (by omega) (fun _ _ z => z) (fun h' u tk k => got h' _ tk k) sz
  | tuple h1 h2 h3 h4 => exact repr_of_reads' (Reads.tuple h1 h2 h3 h4) sh nosys gd (by omega) (fun _ _ z => z) (fun h' u tk k => got h' _ tk k) sz
  | dict h1 h2 h3 h4 h5 => exact repr_of_reads' (Reads.dict h1 h2 h3 h4 h5) sh nosys gd (by omega) (fun _ _ z => z) (fun h' u tk k => got h' _ tk k) sz
theorem room_units {n : Nat} {A : Around} (r : Room n A) : A.units + 200 < cLine := by
  have h := r.un
  omega
end PSG

set_option Elab.async false
set_option linter.all false
set_option maxRecDepth 100000
set_option maxHeartbeats 4000000
namespace PSG
open PySem PySem.Spec L2
open PyProof.Rows (IntsAre AllBare)
/-! ### the exception that is held, where a pin bears it -/
section
variable {X : Cx} {a : Addr} {oe : Obj} {cls : Value} {d : Option Addr}
theorem heldP {D : Addr} {fs : List (Str × V)} {pins : List (Addr × Obj)} {σ : L2.St} {H : Hp} {s : Shared} (hp : (a, oe) ∈ X.pn) (hz : Zc (.ref D) d oe) (hf : ∃ vs, oe.data = .fields vs) (I : Inv X pins σ H s) (x : ExS H d fs) :
    ∃ od, PySem.W.InstAt s.heap a oe D od := by
  obtain ⟨vs, hv⟩ := hf
  obtain ⟨at_, _⟩ := I.pin (a, oe) (List.mem_append_left _ hp)
  have nc : PySem.W.notCls oe = true := by
    unfold PySem.W.notCls
    rw [hv]
  rcases x with ⟨rfl, _⟩ | ⟨dx, rfl, _, h⟩
  · exact ⟨none, at_, hz.1, nc, by rw [hz.2]; trivial⟩
  · obtain ⟨mA, hns, _⟩ := exd_at I.hok h
    obtain ⟨o, ho, _⟩ := lookIn_ns hns
    exact ⟨some o, at_, hz.1, nc, by rw [hz.2]; exact ho⟩
theorem call_hisP (hp : (a, oe) ∈ X.pn) (hz : Zc cls d oe) (hf : ∃ vs, oe.data = .fields vs) : CallR X (.builtin "isinstance") (rHis X.K a cls d) := by
  intro pins s σ H xs us Q I r h
  obtain ⟨D, fs, b, rfl, x, T, k, q⟩ := h
  obtain ⟨od, J⟩ := heldP hp hz hf I x
  rcases k with ⟨c, u, rfl, k, e⟩ | ⟨tp, cs, ws, rfl, hT, k, e⟩
  · obtain ⟨u1, u2, rfl, r1, r2⟩ := vals2 r
    cases r1
    have e2 := k.eq r2
    subst e2
    exact PySem.W.kia_one (T.kit (x := a) (ox := oe)) I.kIn ⟨od, J⟩ e (fun z => nomatch z) fun tk => ⟨.bl b, H, I.tok tk, rfl, q⟩
  · obtain ⟨u1, u2, rfl, r1, r2⟩ := vals2 r
    cases r1
    cases r2
    obtain ⟨_, its, rv, o, h1, h2, n, h3⟩ := (show ObjOk X.prog X.w H s.heap tp (.tup cs) from I.hok tp _ hT)
    have e3 := ClsV.all k rv
    subst e3
    obtain ⟨oc, oD, dt, sl⟩ := o
    simp only at h2 h3
    subst h2 h3
    exact PySem.W.kia_tup (T.kit (x := a) (ox := oe)) I.kIn ⟨od, J⟩ h1 e (fun z => nomatch z) fun tk => ⟨.bl b, H, I.tok tk, rfl, q⟩
theorem pe_hfldP {e : Expr} {te : TE} {pos : Pos} {n : Str} (hp : (a, oe) ∈ X.pn) (hz : Zc cls d oe) (hf : ∃ vs, oe.data = .fields vs) (he : PE X e te) (hb : attributeBase e n X.env (eval e X.env) = eval e X.env := by rfl) :
    PE X (.Attribute e n pos) (tHfld X.K a cls d n te) where
  run := fun pins s σ H Q I h => by
    refine attr_of hb (thn (he.run pins s σ H _ I h) fun u s1 hh => ?_)
    obtain ⟨x, H1, I1, rx, D, fs, v, ex, ec, xs, T, no, l, q⟩ := hh
    subst ex ec
    cases rx
    rcases xs with ⟨_, e⟩ | ⟨dx, ed, nn, h2⟩
    · rw [e] at l
      cases l
    · obtain ⟨od, J⟩ := heldP hp hz hf I1 (.inr ⟨dx, ed, nn, h2⟩)
      subst ed
      obtain ⟨mA, hns, rel⟩ := exd_at I1.hok h2
      obtain ⟨o, ho, look⟩ := lookIn_ns hns
      obtain ⟨w, hw, rw_⟩ := RelO.some_of (v := v) (o := mA n) (by rw [← l]; exact rel n)
      obtain ⟨vs, hv⟩ := hf
      obtain ⟨at_, _⟩ := I1.pin (a, oe) (List.mem_append_left _ hp)
      have J2 : PySem.W.InstAt s1.heap a oe D (some o) := ⟨at_, hz.1, by unfold PySem.W.notCls; rw [hv] <;> rfl, by rw [hz.2]; exact ho⟩
      exact PySem.HandSPX.exc_get I1.kIn J2 T.get T.get2 T.exc (PySem.W.findObj_own T.dict no rfl (by rw [look, hw])) (handed_of rw_) ⟨v, H1, I1.tok _, rw_, q⟩
end
/-! ### a def that is called within an except suite, and may ask the exception that is held -/
structure FnE (P : Program) (w : World) (K : PySem.W.Frag) (mg : Str → Option Value) (base : Heap) (n : Nat) (at_ : Addr) (fd : FuncData) (ps : List Str) (sp : Addr × Obj → Sp) : Prop where
  many : ∀ p vs H Q E, sp p vs H Q E → vs.length = ps.length
  goes : ∀ (B : Around) (up : List Env) (s : Shared) (H : Hp) (ar : Args) (us : List Value) (vs : List V) (Q : VK) (E : XK) (p : Addr × Obj),
    L2H.RoomH n B → B.guards = some [] → L2H.PinOk up H s p → Env0 P w K mg base B up s H → BindsTo s fd ar (ps.zip us) → Vals vs us → sp p vs H Q E →
    codeAny (model P w) B (.call (.ref at_) ar) (CR CX0 up P w H s Q E) s
section
variable {P : Program} {w : World} {K : PySem.W.Frag} {mg : Str → Option Value} {base : Heap}
theorem fnE {n : Nat} {x ql : Str} {st : Stmt} {at_ : Addr} {fd : FuncData} {N ps : List Str} {sp : Addr × Obj → Sp} (F : Fun K x ql st at_ fd) (S : FnScope N ps (defScope st)) (many : ∀ p vs H Q E, sp p vs H Q E → vs.length = ps.length)
    (main : ∀ (cdv : Value) (B : Around) (up : List Env) (s : Shared) (H : Hp) (vs : List V) (Q : VK) (E : XK) (p : Addr × Obj), L2H.RoomH n (B.deeper (PyProof.Rows.envOfC ql (defScope st) s.heap.objs.size at_ cdv)) → B.guards = some [] → sp p vs H Q E →
      ∃ t, PSs (L2H.cxH CX0 P w K mg base N ql (defScope st) at_ cdv B up s H E p).nox (defBody st) t ∧ t { nx := fun _ G => Q .non G, rt := Q } (L2.start N vs) H) : FnE P w K mg base (n + 1) at_ fd ps sp where
  many := many
  goes := by
    obtain ⟨oc, od, kV, doc, pm, an, cdv, ct, osl, rfl, lk, hcd⟩ := F.ex
    intro B up s H ar us vs Q E p room gd pin en bi va ho
    have keepB : ∀ b o, base.get? b = some o → s.heap.get? b = some o := fun b o z => (en.bs b o z).1
    have atK := en.mod.kin.keeps keepB
    refine codeAny_call_function room.depth (atK _ _ lk) rfl S.co S.gen rfl (PySem.W.codeRec_of atK hcd) (bi _ _ _ _ ?_)
    refine wpAny_newFunctionEnv_cells S.kind (fun y hy => ?_) fun env he t1 x => ?_
    · obtain ⟨n, v⟩ := y
      cases S.par n (List.of_mem_zip hy).1 with
      | inl z => exact .inl z
      | inr z => exact .inr ⟨z, PySem.W.cellsFrom_some _ _ _ (.inl z)⟩
    · cases he
      refine ⟨(en.mod.nolimit.keeps keepB).keeps x.toInCall.keep, codeAny_func ?_⟩
      obtain ⟨t, der, rd⟩ := main cdv B up s H vs Q E p (room.deeper _) gd ho
      have J := L2H.inv_startH (CX := CX0) (E := E) S pin en (many _ _ _ _ _ ho) va x
      refine wpAny_mono (der.nox.run [] t1 _ H _ J rd) ?_ fun _ _ z => z
      intro fl t2 z
      cases fl with
      | next =>
        obtain ⟨_, G, J2, q⟩ := z
        exact ⟨V.non, G, J2.os, J2.bare, J2.base, J2.hok, rfl, q⟩
      | ret u =>
        obtain ⟨v, _, G, J2, rel, q⟩ := z
        exact ⟨v, G, J2.os, J2.bare, J2.base, J2.hok, rel, q⟩
      | brk => exact (show False from z.choose_spec.choose_spec.2).elim
      | cont => exact (show False from z.choose_spec.choose_spec.2).elim
end
/-- f(e, ..) in the suite -/
def tCallE (p : Addr × Obj) (sp : Addr × Obj → Sp) (t : TA) : TE := fun σ H Q => t σ H fun vs H1 => sp p vs H1 Q (fun _ _ _ => False)
section
variable {X : Cx} {n : Nat} {at_ : Addr} {fd : FuncData} {ps : List Str} {sp : Addr × Obj → Sp} {x : Str} {pa pos : Pos} {e : Expr} {es : List Expr} {t : TA} {p : Addr × Obj}
theorem pe_callE (F : FnE X.prog X.w X.K X.mg X.base n at_ fd ps sp) (hp : p ∈ X.pn) (room : L2H.RoomH n X.A) (gd : X.A.guards = some []) (hg : Gl X x) (hm : X.mg x = some (.ref at_)) (keep : PySem.W.keepIn X.K (.ref at_) = true)
    (bi : Binds X.K fd ps []) (ha : PA X (e :: es) t) (nd : (x == ("__debug__" : Str)) = false := by decide)
    (se : starEach (e :: es) X.env = (false, eval e X.env) :: starEach es X.env := by rfl) (sn : (backTo pos (starEach es X.env)).any (·.1) = false := by rfl) :
    PE X (.Call (.Name x pa) (e :: es) [] pos) (tCallE p sp t) where
  run := fun pins s σ H Q I h => by
    refine wpAny_Call_Name_kw (ld_glob I hg hm (PySem.W.callWith_K (h₀ := X.base) I.ok.mod.kin keep (thn (ha.run pos pins s σ H _ I h) fun us s1 ⟨vs, H1, I1, r, q⟩ => ⟨I1.kIn, ?_⟩) se sn) nd)
    have many : us.length = ps.length := r.length.symm.trans (F.many _ _ _ _ _ q)
    have b := bi s1 us I1.kIn (by rw [List.append_nil]; exact many)
    rw [List.append_nil] at b
    obtain ⟨g1, g2, g3, g4, g5⟩ := I1.pin p (List.mem_append_left _ hp)
    have pin : L2H.PinOk X.stack H1 s1 p := ⟨g1, g2, fun hm => (List.mem_cons.mp (I1.stkSub p.1 hm)).elim g3 g4, g5⟩
    refine wpAny_call (codeAny_mono (F.goes X.A X.stack s1 H1 ⟨us, []⟩ us vs Q (fun _ _ _ => False) p room gd pin I1.env0 b r q) fun r s' z => ?_)
    match r, z with
    | .error er, z => exact z.elim
    | .ok (.ret u), z => exact I1.after z
/-- .. as the suite's own wish, which knows the exception's class and dict alone -/
def tCallH (a : Addr) (cls : Value) (d : Option Addr) (sp : Addr × Obj → Sp) (t : TA) : TE := fun σ H Q => t σ H fun vs H1 => ∀ oe : Obj, Zc cls d oe → (∃ ws, oe.data = .fields ws) → sp (a, oe) vs H1 Q (fun _ _ _ => False)
theorem pe_callH {a : Addr} {oe : Obj} {cls : Value} {d : Option Addr} {pn : List (Addr × Obj)} (hz : Zc cls d oe) (hf : ∃ ws, oe.data = .fields ws) (F : FnE X.prog X.w X.K X.mg X.base n at_ fd ps sp) (room : Room n X.A) (gd : X.A.guards = some []) (hg : Gl X x) (hm : X.mg x = some (.ref at_))
    (keep : PySem.W.keepIn X.K (.ref at_) = true) (bi : Binds X.K fd ps []) (ha : PA (X.suite a ((a, oe) :: pn)) (e :: es) t) (nd : (x == ("__debug__" : Str)) = false := by decide)
    (se : starEach (e :: es) X.env = (false, eval e X.env) :: starEach es X.env := by rfl) (sn : (backTo pos (starEach es X.env)).any (·.1) = false := by rfl) :
    PE (X.suite a ((a, oe) :: pn)) (.Call (.Name x pa) (e :: es) [] pos) (tCallH a cls d sp t) where
  run := fun pins s σ H Q I h => by
    refine wpAny_Call_Name_kw (ld_glob (X := X.suite a ((a, oe) :: pn)) I hg hm (PySem.W.callWith_K (h₀ := X.base) I.ok.mod.kin keep (thn (ha.run pos pins s σ H _ I h) fun us s1 ⟨vs, H1, I1, r, q⟩ => ⟨I1.kIn, ?_⟩) se sn) nd)
    have q := q oe hz hf
    have many : us.length = ps.length := r.length.symm.trans (F.many _ _ _ _ _ q)
    have b := bi s1 us I1.kIn (by rw [List.append_nil]; exact many)
    rw [List.append_nil] at b
    obtain ⟨g1, g2, g3, g4, g5⟩ := I1.pin (a, oe) (List.mem_append_left _ List.mem_cons_self)
    have pin : L2H.PinOk X.stack H1 s1 (a, oe) := ⟨g1, g2, fun hm => (List.mem_cons.mp (I1.stkSub a hm)).elim g3 g4, g5⟩
    refine wpAny_call (codeAny_mono (F.goes (X.A.mark (some (.ref a))) X.stack s1 H1 ⟨us, []⟩ us vs Q (fun _ _ _ => False) (a, oe) ⟨room.dp, room.un⟩ gd pin I1.env0 b r q) fun r s' z => ?_)
    match r, z with
    | .error er, z => exact z.elim
    | .ok (.ret u), z => exact I1.after z
theorem room_hot {n : Nat} {A : Around} (r : Room n A) (h : Option Value) : L2H.RoomH n (A.mark h) := ⟨r.dp, r.un⟩
theorem roomH_units {n : Nat} {A : Around} (r : L2H.RoomH n A) : A.units + 200 < cLine := by
  have h := r.un
  omega
end
end PSG

set_option Elab.async false
set_option linter.all false
set_option maxRecDepth 100000
set_option maxHeartbeats 8000000
namespace PSG
open PySem PySem.Spec L2
open PyProof.Rows (IntsAre AllBare)
/-! ### what a thing is -/
def tyD : PyData → String
  | .none => "NoneType"
  | .bool _ => "bool"
  | .int _ => "int"
  | .str _ => "str"
  | .list _ => "list"
  | .tuple _ => "tuple"
  | .dict _ => "dict"
theorem Dt.ty {K : PySem.W.Frag} {far : Bool} {H : Hp} {v : V} {d : PyData} (h : Dt far H v d) : TyX K H v (.type (tyD d)) := by
  cases h with
  | non => exact .base .non
  | bl b => exact .base (.bl b)
  | int i => exact .base (.int i)
  | str x => exact .base (.str x)
  | lst e _ _ => exact .base (.lst e)
  | tup e _ => exact .base (.tup e)
  | dict e _ => exact .base (.dK e)
def isI : PyData → Bool
  | .int _ => true
  | .bool _ => true
  | _ => false
def isB : PyData → Bool
  | .bool _ => true
  | _ => false
def isS : PyData → Bool
  | .str _ => true
  | _ => false
theorem kit_int {K : PySem.W.Frag} (d : PyData) : PySem.W.kitOne K (.type (tyD d)) (.type "int") = some (isI d) := by cases d <;> kernel_rfl
theorem kit_bool {K : PySem.W.Frag} (d : PyData) : PySem.W.kitOne K (.type (tyD d)) (.type "bool") = some (isB d) := by cases d <;> kernel_rfl
theorem kit_str {K : PySem.W.Frag} (d : PyData) : PySem.W.kitOne K (.type (tyD d)) (.type "str") = some (isS d) := by cases d <;> kernel_rfl
def isT : PyData → Bool
  | .tuple _ => true
  | _ => false
theorem kit_tuple {K : PySem.W.Frag} (d : PyData) : PySem.W.kitOne K (.type (tyD d)) (.type "tuple") = some (isT d) := by cases d <;> kernel_rfl
/-- [.. for c in text] -/
theorem lc_str {x : Str} {g : TG} {tt : TT} {te : TE} {vs : List Nat} {σ : L2.St} {H1 : Hp} {D : Addr} {Qd : Hp → Prop} (Pv : Nat → Hp → Prop) (h0 : Pv 0 (upd H1 D (.lst [])))
    (hs : ∀ i c H, x.cps[i]? = some c → Pv i H → g (.str ⟨#[c]⟩) (wipe σ vs) H fun σ2 H2 => wipe σ2 vs = wipe σ vs ∧ tt σ2 H2 fun b H3 =>
      if b = true then te σ2 H3 fun y H4 => ∃ acc, H4 D = some (.lst acc) ∧ acc.length < sizeLine ∧ Pv (i + 1) (upd H4 D (.lst (acc ++ [y]))) else Pv (i + 1) H3) (hd : ∀ H, Pv x.cps.size H → Qd H) :
    ∃ W : Nat → Nat → Hp → Prop, (∃ m, W 0 m (upd H1 D (.lst []))) ∧ ∀ i m H, W i m H →
      ((Its x).stop i H ∧ Qd H) ∨ ((Its x).go i H ∧ ∃ Nx : Hp → Prop, (∀ H', Nx H' → ∃ m', m' < m ∧ W (i + 1) m' H') ∧ ∀ v H', (Its x).yld i H v H' → g v (wipe σ vs) H' fun σ2 H2 => wipe σ2 vs = wipe σ vs ∧ tt σ2 H2 fun b H3 =>
        if b = true then te σ2 H3 fun y H4 => ∃ acc, H4 D = some (.lst acc) ∧ acc.length < sizeLine ∧ Nx (upd H4 D (.lst (acc ++ [y]))) else Nx H3) := by
  refine ⟨fun i m H => m = x.cps.size - i ∧ i ≤ x.cps.size ∧ Pv i H, ⟨_, rfl, Nat.zero_le _, h0⟩, fun i m H hw => ?_⟩
  obtain ⟨e, le, p⟩ := hw
  by_cases lt : i < x.cps.size
  · refine .inr ⟨lt, Pv (i + 1), fun H' q => ⟨x.cps.size - (i + 1), by omega, rfl, lt, q⟩, fun v H' y => ?_⟩
    obtain ⟨rfl, c, hc, rfl⟩ := y
    exact hs i c _ hc p
  · have e2 : i = x.cps.size := by omega
    refine .inl ⟨Nat.le_of_not_lt lt, hd H ?_⟩
    rw [← e2]
    exact p
/-- data with a short text, not deep -/
structure Fine (d : PyData) : Prop where
  sh : d.showable = true
  ln : d.shown.length ≤ 1000
  dp : d.depth ≤ 6
  ok : PyData.strOk d.shown = true
/-- a class of the package: its name, and how it is made -/
structure Own (P : Program) (w : World) (K : PySem.W.Frag) (mg : Str → Option Value) (base : Heap) (x : Str) (C : Addr) (fn : List Str) : Prop where
  glob : mg x = some (.ref C)
  made : ∃ (fI : Addr) (fd : FuncData) (ps : List Str) (B newId initId : String) (bmB : List Value), Xk K C fI B newId initId bmB ∧ FnOk P w K mg base CX0 1 fI fd ps (spXI C fn) ∧ Binds K fd ps [] ∧ ps.length = fn.length + 1
section
variable {X : Cx} {x : Str} {C : Addr} {fn : List Str} {p pos : Pos} {e : Expr} {es : List Expr} {t : TA}
theorem pmk_own1 (T : Own X.prog X.w X.K X.mg X.base x C fn) (hr : Room 2 X.A) (hg : Gl X x) (ha : PA X (e :: es) t) (nd : (x == ("__debug__" : Str)) = false := by decide)
    (se : starEach (e :: es) X.env = (false, eval e X.env) :: starEach es X.env := by rfl) (sn : (backTo pos (starEach es X.env)).any (·.1) = false := by rfl) : PMk X (.Call (.Name x p) (e :: es) [] pos) (tPmk C fn t) := by
  obtain ⟨fI, fd, ps, B, n1, n2, bm, T1, F, b, l⟩ := T.made
  exact pmk_xk T1 F hr b l hg T.glob ha nd se sn
theorem pmk_own0 (T : Own X.prog X.w X.K X.mg X.base x C []) (hr : Room 2 X.A) (hg : Gl X x) (nd : (x == ("__debug__" : Str)) = false := by decide) : PMk X (.Call (.Name x p) [] [] pos) (tPmk C [] tNil) := by
  obtain ⟨fI, fd, ps, B, n1, n2, bm, T1, F, b, l⟩ := T.made
  exact pmk_xk0 T1 F hr b l hg T.glob nd
end
theorem rep_thing {H : Hp} {v : V} {d : PyData} {Q : VK} (hd : Dt true H v d) (n : Fine d) (q : Q (.str d.shown) H) : rRep [v] H Q := by
  have h1 := n.ln
  have h2 := n.dp
  exact ⟨v, d, true, rfl, hd, fun _ => .inl rfl, n.sh, by rw [sizeLine_eq]; omega, by omega, q⟩
theorem ofString_ok (s : String) : PyData.strOk (Str.ofString s) = true := by
  unfold PyData.strOk
  rw [Str.ofString_eq_toList, Array.all_eq_true_iff_forall_mem]
  intro c hc
  simp only [List.mem_toArray, List.mem_map] at hc
  obtain ⟨ch, _, rfl⟩ := hc
  have v : ch.val.toNat < 0xd800 ∨ (0xdfff < ch.val.toNat ∧ ch.val.toNat < 0x110000) := ch.valid
  have e : ch.toNat = ch.val.toNat := rfl
  refine decide_eq_true ?_
  omega
theorem nice_small {i : Int} (h : i.natAbs ≤ 10 ^ 31) : Fine (.int i) := by
  refine ⟨?_, ?_, by simp [PyData.depth], ofString_ok _⟩
  · have lg : i.natAbs.log2 < 1920 := PySem.Flt.log2_lt_of (by decide) (Nat.lt_of_le_of_lt h (by decide +kernel))
    exact decide_eq_true lg
  · have e := PySem.int_text_length_le10 (k := 32) (a := i) (by decide) (Nat.lt_of_le_of_lt h (by decide +kernel))
    show (Str.ofString (toString i)).length ≤ 1000
    rw [PySem.ofString_length]
    omega
theorem okG {P : Program} {w : World} {K : PySem.W.Frag} {mg : Str → Option Value} {base : Heap} {x ql : Str} {st : Stmt} {f : Addr} {fd : FuncData} {N ps : List Str} {n : Nat} {sp : Sp} (F : Fun K x ql st f fd) (S : FnScope N ps (defScope st))
    (many : ∀ vs H Q E, sp vs H Q E → vs.length = ps.length)
    (main : ∀ (cdv : Value) (B : Around) (up : List Env) (s : Shared) (H : Hp) (vs : List V) (Q : VK) (E : XK), Room n (B.deeper (PyProof.Rows.envOfC ql (defScope st) s.heap.objs.size f cdv)) → B.guards = some [] → sp vs H Q E →
      ∃ t, PSs (cxOf CX0 P w K mg base N ql (defScope st) f cdv B up s H E).nox (defBody st) t ∧ t { nx := fun _ G => Q .non G, rt := Q } (start N vs) H) : FnG P w K mg base CX0 (n + 1) f fd ps sp := by
  obtain ⟨oc, od, kV, doc, pm, an, cdv, ct, osl, rfl, lk, hcd⟩ := F.ex
  refine fnG lk hcd S many fun B up s H vs Q E room gd ho => ?_
  obtain ⟨t, der, rd⟩ := main cdv B up s H vs Q E room gd ho
  exact ⟨t, der.nox, rd⟩
theorem fine_dec {d : PyData} (h : (d.showable && decide (d.shown.length ≤ 1000) && decide (d.depth ≤ 6) && PyData.strOk d.shown) = true) : Fine d := by
  simp only [Bool.and_eq_true, decide_eq_true_eq] at h
  exact ⟨h.1.1.1, h.1.1.2, h.1.2, h.2⟩
theorem dt_to {B H H' : Hp} {r : Addr} {v : V} {d : PyData} (h : Dt true (news B H) v d) (b : But r H H') (there : ∃ o, B r = some o) : Dt true H' v d := (h.same (news_but b there)).same news_sub
theorem strs_dp {K : PySem.W.Frag} {H : Hp} : ∀ l : List Str, DpAll K H (l.map V.str) (l.map PyData.str)
  | [] => .nil
  | x :: l => .cons (.str x) (strs_dp l)
theorem strs_lay : ∀ l : List Str, (∀ x ∈ l, PyData.strOk x = true) → PyData.canLayAll0 (l.map PyData.str) = true
  | [], _ => by simp [PyData.canLayAll0]
  | x :: l, h => by simp [PyData.canLayAll0, PyData.canLay0, h x List.mem_cons_self, strs_lay l fun y hy => h y (List.mem_cons_of_mem _ hy)]
theorem strs_depth : ∀ l : List Str, PyData.depthAll (l.map PyData.str) ≤ 1
  | [] => by simp [PyData.depthAll]
  | x :: l => by
    have ih := strs_depth l
    simp only [List.map_cons, PyData.depthAll, PyData.depth]
    omega
theorem strs_shaped {l : List Str} (h : ∀ x ∈ l, PyData.strOk x = true) : SeqAt.shaped (.list (l.map PyData.str)) = true := by
  have d := strs_depth l
  unfold SeqAt.shaped
  have e : (PyData.list (l.map PyData.str)).canLay0 = true := by simp only [PyData.canLay0, strs_lay l h]
  have e2 : (PyData.list (l.map PyData.str)).depth ≤ 64 := by simp only [PyData.depth]; omega
  rw [e, decide_eq_true e2]
  rfl
/-- two lists of the same texts are not unlike -/
theorem ne_strs {K : PySem.W.Frag} {H : Hp} {a p : Addr} {l : List Str} {Q : VK} (ok : ∀ x ∈ l, PyData.strOk x = true) (h1 : H a = some (.lst (l.map V.str))) (h2 : H p = some (.lst (l.map V.str))) (q : Q (.bl false) H) : rNeD K (.ref a) (.ref p) H Q := by
  refine ⟨_, _, .lst (SqL.of h1) (strs_dp l), .lst (SqL.of h2) (strs_dp l), strs_shaped ok, strs_shaped ok, ?_⟩
  rw [PySem.SeqAt.eqv_refl _ (by simp only [PyData.canLay0, strs_lay l ok])]
  exact q
/-- what the end asks of a class, in one look -/
def look (K : PySem.W.Frag) (C f : Addr) (bmB : List Value) (newId : String) (fs : List Str) : Bool :=
  PySem.W.excInitIn K C bmB newId && (PySem.W.excOver K C bmB && (PySem.W.hasDictIn K C && (decide (PySem.W.findIn K (.ref C) "__setattr__" = some (some (.builtin "object.__setattr__"))) &&
  (decide (PySem.W.typeIn K (.ref f) = some (.type "function")) && (PySem.W.keepIn K (.ref C) && (decide (PySem.W.subIn K (.ref C) (.type "BaseException") = some true) && (decide (PySem.W.typeIn K (.ref C) = some (.type "type")) &&
  (decide (PySem.W.findIn K (.ref C) "__getattribute__" = some (some (.builtin "BaseException.__getattribute__"))) && (decide (PySem.W.findIn K (.ref C) "__getattr__" = some none) && (decide (PySem.W.findIn K (.ref C) "__class__" = some (some (.builtin "object.__class__"))) &&
  (decide (PySem.W.mroIn K C (.type "object") = some true) && fs.all fun f => decide (PySem.W.findIn K (.ref C) f = some none))))))))))))
structure Look (K : PySem.W.Frag) (C f : Addr) (bmB : List Value) (newId : String) (fs : List Str) : Prop where
  made : PySem.W.excInitIn K C bmB newId = true
  over : PySem.W.excOver K C bmB = true
  dict : PySem.W.hasDictIn K C = true
  set : PySem.W.findIn K (.ref C) "__setattr__" = some (some (.builtin "object.__setattr__"))
  fn : PySem.W.typeIn K (.ref f) = some (.type "function")
  keep : PySem.W.keepIn K (.ref C) = true
  exc : PySem.W.subIn K (.ref C) (.type "BaseException") = some true
  ty : PySem.W.typeIn K (.ref C) = some (.type "type")
  get : PySem.W.findIn K (.ref C) "__getattribute__" = some (some (.builtin "BaseException.__getattribute__"))
  get2 : PySem.W.findIn K (.ref C) "__getattr__" = some none
  cls : PySem.W.findIn K (.ref C) "__class__" = some (some (.builtin "object.__class__"))
  obj : PySem.W.mroIn K C (.type "object") = some true
  no : ∀ f ∈ fs, PySem.W.findIn K (.ref C) f = some none
theorem look_ok {K : PySem.W.Frag} {C f : Addr} {bmB : List Value} {newId : String} {fs : List Str} (h : look K C f bmB newId fs = true) : Look K C f bmB newId fs := by
  unfold look at h
  simp only [Bool.and_eq_true, decide_eq_true_eq, List.all_eq_true] at h
  obtain ⟨h1, h2, h3, h4, h5, h6, h7, h8, h9, h10, h11, h12, h13⟩ := h
  exact ⟨h1, h2, h3, h4, h5, h6, h7, h8, h9, h10, h11, h12, h13⟩
theorem Look.xk {K : PySem.W.Frag} {C f : Addr} {B newId initId : String} {bmB : List Value} {fs : List Str} (L : Look K C f bmB newId fs) (i : PySem.W.findIn K (.ref C) "__init__" = some (some (.ref f))) (fb : ExcBaseFacts B newId initId bmB)
    (sf : StoreFacts B bmB "object.__setattr__" "object") : Xk K C f B newId initId bmB := ⟨fb, sf, L.made, L.over, L.dict, L.set, i, L.fn, L.keep, L.exc, L.ty⟩
theorem Look.xc {K : PySem.W.Frag} {C f : Addr} {newId : String} {bmB : List Value} {fs : List Str} (L : Look K C f bmB newId fs) (d1 : PySem.W.specialIn K (.builtin "object.__class__") "__get__" = some (some (.builtin "getset_descriptor.__get__")))
    (d2 : PySem.W.takesIn K (.builtin "object.__class__") = some true) : PySem.W.XcC K C := ⟨L.get, L.get2, L.exc, L.dict, L.cls, d1, d2, L.obj⟩
theorem ws_0 {ws : List V} (h : ws.length = ([] : List Str).length) : ws = [] := List.eq_nil_of_length_eq_zero h
theorem ws_1 {x : Str} {ws : List V} (h : ws.length = [x].length) : ∃ v, ws = [v] := match ws, h with | [v], _ => ⟨v, rfl⟩
end PSG

set_option Elab.async false
set_option linter.all false
set_option maxRecDepth 100000
set_option maxHeartbeats 8000000
namespace PSG
open PySem PySem.Spec L2
open PyProof.Rows (IntsAre AllBare)
/-- list(sequence): new, and not sys.modules -/
def rListF (K : PySem.W.Frag) : List V → Hp → VK → Prop := fun xs H Q => ∃ p ys, xs = [.ref p] ∧ (SqL K H p ys ∨ SqT K H p ys) ∧ ∀ l, H l = none → l ≠ sysModules → Q (.ref l) (upd H l (.lst ys))
theorem call_list_ofF {X : Cx} : CallR X (.type "list") (rListF X.K) := by
  intro pins s σ H xs us Q I r ho
  obtain ⟨p, ys, rfl, where_, q⟩ := ho
  obtain ⟨u, rfl, rx⟩ := vals1 r
  cases rx
  have far : s.heap.objs.size ≠ sysModules := Nat.ne_of_gt I.big
  have done : ∀ (its : List Value) (g : Heap) (n : Nat), Vals ys its → ys.length ≤ sizeLine → (∀ b o, s.heap.get? b = some o → g.get? b = some o) → g.get? s.heap.objs.size = some { cls := .type "list", dict := none, data := .seq its.toArray n, slots := #[] } →
      EP X pins σ Q (.ref s.heap.objs.size) { s with heap := g } := fun its g n rv sz k e =>
    ⟨.ref s.heap.objs.size, _, I.laid (t' := s.toks) k (Nat.le_refl _) (show ObjOk X.prog X.w _ g _ (.lst ys) from ⟨sz, its, n, rv, e⟩), rfl, q _ (I.hok.fresh (Nat.le_refl _)) far⟩
  rcases where_ with w | w
  · obtain ⟨its, rv, pl, sz⟩ := I.list w
    have len := rv.length
    obtain ⟨o, ho, hc, n, hd⟩ := pl.isList
    refine call_list_seq p (.inl rfl) ho hc hd (fun g n k e => done its g n rv sz k e) ?_
    simp only [List.size_toArray] <;> omega
  · obtain ⟨its, rv, pl, sz⟩ := I.tuple w
    have len := rv.length
    obtain ⟨o, ho, hc, n, hd⟩ := pl
    refine call_list_seq p (.inr rfl) ho hc hd (fun g n k e => done its g n rv sz k e) ?_
    simp only [List.size_toArray] <;> omega
/-! ### texts of tuples of small things -/
theorem ok_app {x y : Str} (h1 : PyData.strOk x = true) (h2 : PyData.strOk y = true) : PyData.strOk (x ++ y) = true := by
  unfold PyData.strOk at *
  show (x.cps ++ y.cps).all _ = true
  rw [Array.all_append, h1, h2]
  rfl
theorem ok_join {sep : Str} (hs : PyData.strOk sep = true) : ∀ ts : List Str, (∀ t ∈ ts, PyData.strOk t = true) → PyData.strOk (Str.join sep ts) = true
  | [], _ => by
    show PyData.strOk (⟨#[]⟩ : Str) = true
    decide +kernel
  | [x], h => h x List.mem_cons_self
  | x :: y :: r, h => ok_app (ok_app (h x List.mem_cons_self) hs) (ok_join hs (y :: r) fun t ht => h t (List.mem_cons_of_mem _ ht))
theorem ok_tuple {ts : List Str} (h : ∀ t ∈ ts, PyData.strOk t = true) : PyData.strOk (tupleText ts) = true := by
  unfold tupleText
  refine ok_app (ok_app (by decide +kernel) (ok_join (by decide +kernel) ts h)) ?_
  split <;> decide +kernel
/-- a thing that may stand within a tuple -/
structure El (d : PyData) : Prop where
  sh : d.showable = true
  ln : d.shown.length ≤ 40
  dp : d.depth ≤ 4
  ok : PyData.strOk d.shown = true
theorem el_dec {d : PyData} (h : (d.showable && decide (d.shown.length ≤ 40) && decide (d.depth ≤ 4) && PyData.strOk d.shown) = true) : El d := by
  simp only [Bool.and_eq_true, decide_eq_true_eq] at h
  exact ⟨h.1.1.1, h.1.1.2, h.1.2, h.2⟩
theorem els_all : ∀ {ds : List PyData}, (∀ d ∈ ds, El d) → PyData.showableAll ds = true ∧ ((PyData.shownAll ds).map (·.length)).sum ≤ 40 * ds.length ∧ PyData.depthAll ds ≤ 4 ∧ (PyData.shownAll ds).length = ds.length ∧ ∀ t ∈ PyData.shownAll ds, PyData.strOk t = true
  | [], _ => by simp [PyData.showableAll, PyData.shownAll, PyData.depthAll]
  | d :: ds, h => by
    obtain ⟨h1, h2, h3, h4, h5⟩ := els_all (ds := ds) fun x hx => h x (List.mem_cons_of_mem _ hx)
    have n := h d List.mem_cons_self
    have n2 := n.ln
    have n3 := n.dp
    refine ⟨by simp only [PyData.showableAll, n.sh, h1, Bool.and_self], ?_, ?_, ?_, ?_⟩
    · simp only [PyData.shownAll, List.map_cons, List.sum_cons, List.length_cons]
      omega
    · simp only [PyData.depthAll]
      omega
    · simp only [PyData.shownAll, List.length_cons, h4]
    · intro t ht
      simp only [PyData.shownAll, List.mem_cons] at ht
      rcases ht with rfl | ht
      · exact n.ok
      · exact h5 t ht
theorem fine_tuple {ds : List PyData} (few : ds.length ≤ 21) (h : ∀ d ∈ ds, El d) : Fine (.tuple ds) := by
  obtain ⟨h1, h2, h3, h4, h5⟩ := els_all h
  refine ⟨by simpa only [PyData.showable] using h1, ?_, ?_, ok_tuple h5⟩
  · have l := tupleText_len_le (PyData.shownAll ds)
    show (tupleText (PyData.shownAll ds)).length ≤ 1000
    omega
  · simp only [PyData.depth]
    omega
end PSG

set_option Elab.async false
set_option linter.all false
set_option maxRecDepth 100000
set_option maxHeartbeats 4000000
/-! tuple(text) -/
namespace PSZ
open PySem PySem.Spec
section
variable {prog : Program} {w : World} {A : Around} {E : Value → Shared → Prop} {s : Shared} {x : Str} {t : Tok}
/-- what is laid: the signs of the text, one by one -/
def Laid (s : Shared) (x : Str) (q : Value → Shared → Prop) : Prop :=
  ∀ (s' : Shared) (acc : Array Value), (∀ b o, s.heap.get? b = some o → s'.heap.get? b = some o) → s'.gens = s.gens → s'.drawn = s.drawn → s'.os = s.os → ItemsOf (SignAt x) acc x.cps.size →
    q (.ref s'.heap.objs.size) { s' with heap := s'.heap.push { cls := .type "tuple", data := .seq acc } }
theorem text_new {q : Value → Shared → Prop} (hd : A.handled = none) (few : x.cps.size ≤ sizeLine) (h : Laid s x q) : codeAny (model prog w) A (.call (.builtin "tuple.__new__") ⟨[.type "tuple", .str x t], []⟩) (wants q E) s := by
  refine codeAny_of_tree ?_
  show wpAny _ A.in1 (do checkBuiltinCall "tuple.__new__" ⟨[.type "tuple", .str x t], []⟩; again (.builtin "tuple.__new__" ⟨[.type "tuple", .str x t], []⟩)) _ _ s
  refine wpAny_bind (wpAny_of_eq (F.newCall_tuple_1 _) (wpAny_pure ⟨plainId_quiet F.plain_tuple_new _, codeAny_builtin F.entry_tuple_new ?_⟩))
  rw [Around.under_plainId F.plain_tuple_new _]
  have k1 := sub_tuple_self
  have k2 := init_tuple_lookup
  have k3 := madeHere_tuple
  have ty : s.TypeIs (.str x t) "str" := typeIs_str _ _ _
  have hd1 : A.in1.handled = none := hd
  wp_walk using wpAny_typeOf ty, wpAny_collect_str (A := A.in1) hd1 x t
  first
    | (intro s' acc k e1 e2 e3 its
       show wpAny _ _ (Builtin.Tuple.tupleExact acc.toList.toArray >>= fun v => ret v) _ _ _
       unfold Builtin.Tuple.tupleExact
       refine wpAny_bind (wpAny_newObj_type ?_ (by show acc.toList.toArray.size ≤ sizeLine; simp only [Array.toArray_toList]; rw [its.1]; exact few))
       refine wpAny_pure ?_
       have e : acc.toList.toArray = acc := by simp
       rw [e]
       exact h s' acc k e1 e2 e3 its)
    | skip
theorem call_text {Q : Value → Shared → Prop} (hd : A.handled = none) (few : x.cps.size ≤ sizeLine) (h : Laid s x Q) : wpAny (model prog w) A (call (.type "tuple") [.str x t]) Q E s := by
  refine callType_codes (Q₁ := fun obj s₁ => s₁.TypeIs obj "tuple" ∧ Q obj s₁) F.called_tuple (F.typeCall_tuple_1 _) F.entry_object_init
    (text_new (A := A.in1) hd few fun s' acc k e1 e2 e3 its => ⟨⟨_, Heap.get?_push_size _ rfl, rfl⟩, h s' acc k e1 e2 e3 its⟩) fun obj s₁ h₁ => ?_
  exact ⟨h₁.1, F.args_object_init_2 obj _, object_init_meets F.called_tuple.init.lookup F.called_tuple.made (by decide) prog w A.in1 _ s₁ ⟨h₁.1, rfl, h₁.2⟩⟩
end
end PSZ
namespace PSG
open PySem PySem.Spec L2
open PyProof.Rows (IntsAre AllBare)
theorem signs_vals : ∀ (cs : List Nat) (us : List Value), us.length = cs.length → (∀ (j : Nat) (v : Value), us[j]? = some v → ∃ (c : Nat) (u : Tok), cs[j]? = some c ∧ v = Value.str ⟨#[c]⟩ u) → Vals (cs.map fun c => V.str ⟨#[c]⟩) us
  | [], [], _, _ => .nil
  | [], _ :: _, h, _ => by cases h
  | _ :: _, [], h, _ => by cases h
  | c :: cs, u :: us, h, k => by
    obtain ⟨d, t, e1, e2⟩ := k 0 u rfl
    have e3 : c = d := by simpa using e1
    subst e3 e2
    exact .cons ⟨t, rfl⟩ (signs_vals cs us (by simpa using h) fun j v e => k (j + 1) v (by simpa using e))
def rTupS : List V → Hp → VK → Prop := fun xs H Q => ∃ x : Str, xs = [.str x] ∧ x.length ≤ 1000 ∧ ∀ l, H l = none → Q (.ref l) (upd H l (.tup (x.cps.toList.map fun c => V.str ⟨#[c]⟩)))
theorem call_tupleS {X : Cx} (calm : X.calm = true) : CallR X (.type "tuple") rTupS := by
  intro pins s σ H xs us Q I r h
  obtain ⟨x, rfl, few, q⟩ := h
  obtain ⟨u, rfl, t, rfl⟩ := vals1 r
  have few2 : x.cps.size ≤ sizeLine := by
    have e : x.cps.size = x.length := rfl
    rw [sizeLine_eq]
    omega
  refine PSZ.call_text (I.ok.hd calm) few2 fun s' acc k e1 e2 e3 its => ?_
  obtain ⟨h', g', d', t', o'⟩ := s'
  dsimp only at e1 e2 e3 k
  subst e1 e2 e3
  have I1 : Inv X pins σ H { s with heap := h', toks := t' } := I.kept (t' := t') k
  have va : Vals (x.cps.toList.map fun c => V.str ⟨#[c]⟩) acc.toList := signs_vals _ _ (by rw [Array.length_toList, Array.length_toList]; exact its.1) fun j v e => by
    obtain ⟨c, u, e4, e5⟩ := its.2 j v (by rw [← Array.getElem?_toList]; exact e)
    exact ⟨c, u, by rw [Array.getElem?_toList]; exact e4, e5⟩
  have I2 := I1.laid (t' := t') (a := h'.objs.size) (h' := h'.push { cls := .type "tuple", data := .seq acc }) (o := .tup (x.cps.toList.map fun c => V.str ⟨#[c]⟩)) (fun b o e => Heap.get?_push_of_some _ e) (Nat.le_refl _)
    ⟨by rw [List.length_map, Array.length_toList]; exact few2, acc.toList, va, ⟨_, Heap.get?_push_size _ rfl, rfl, 0, by simp⟩⟩
  exact ⟨.ref h'.objs.size, _, I2, rfl, q _ (I1.hok.fresh (Nat.le_refl _))⟩
end PSG

set_option Elab.async false
set_option linter.all false
set_option maxRecDepth 100000
set_option maxHeartbeats 8000000
/-! sets of numbers and texts, with what a walk over them wants: add, set(xs), len, sorted -/
namespace PSS
open PySem PySem.Spec PyProof.Rows L2
instance memK (k : Key) (L : List Key) : Decidable (k ∈ L) := @List.instDecidableMemOfLawfulBEq Key instBEqOfDecidableEq inferInstance k L
def kOf : Value → Key
  | .int i _ => .inl i
  | .str x _ => .inr x
  | _ => .inl 0
theorem kOf_rel {k : Key} {u : Value} (r : RelV (kV k) u) : kOf u = k := by
  cases k with
  | inl i => obtain ⟨t, rfl⟩ := r; rfl
  | inr x => obtain ⟨t, rfl⟩ := r; rfl
abbrev eK (e : Int × Value) : Key := kOf e.2
def Ent (P : Program) (w : World) (e : Int × Value) : Prop := ∃ k : Key, RelV (kV k) e.2 ∧ e.1 = (mixKind P w).hash k
theorem ent_is {P : Program} {w : World} {e : Int × Value} (n : Ent P w e) (k : Key) : (mixKind P w).is k e.2 = true ↔ eK e = k := by
  obtain ⟨j, r, _⟩ := n
  have i1 : (mixKind P w).is j e.2 = true := kV_is r
  rw [show eK e = j from kOf_rel r]
  exact ⟨fun z => (mixKind P w).inj _ _ _ i1 z, fun z => z ▸ i1⟩
theorem ents_el {P : Program} {w : World} {es : List (Int × Value)} (n : ∀ e ∈ es, Ent P w e) : ElemsOf (mixKind P w) es := by
  intro e he
  obtain ⟨j, r, h⟩ := n e he
  exact ⟨⟨j, kV_is r, h⟩, key_scan r⟩
theorem ents_mem {P : Program} {w : World} {es : List (Int × Value)} (n : ∀ e ∈ es, Ent P w e) (k : Key) : k ∈ es.map eK ↔ ∃ e ∈ es, (mixKind P w).is k e.2 = true := by
  rw [List.mem_map]
  exact ⟨fun ⟨e, he, z⟩ => ⟨e, he, (ent_is (n e he) k).2 z⟩, fun ⟨e, he, z⟩ => ⟨e, he, (ent_is (n e he) k).1 z⟩⟩
/-- the set at a has just the keys L -/
structure Is (P : Program) (w : World) (h : Heap) (a : Addr) (L : List Key) (o : Obj) (es : Array (Int × Value)) (ep : Nat) (t : SetTable) : Prop where
  at_ : h.get? a = some o
  ex : o.ExactSet
  da : o.data = .set es ep t
  en : ∀ e ∈ es.toList, Ent P w e
  pm : (es.toList.map eK).Perm L
  nd : L.Nodup
  sz : L.length < scanBound
  ft : t.fits es.size = true
  ri : Ris t.place.toList
  le : w.params.followText "set-order" = true ∨ t.led = true
def SetM (P : Program) (w : World) (h : Heap) (a : Addr) (L : List Key) : Prop := ∃ o es ep t, Is P w h a L o es ep t
section
variable {P : Program} {w : World} {h h' : Heap} {a : Addr} {L : List Key} {o : Obj} {es : Array (Int × Value)} {ep : Nat} {t : SetTable}
theorem Is.len (I : Is P w h a L o es ep t) : es.size = L.length := by
  have e := I.pm.length_eq
  rw [List.length_map, Array.length_toList] at e
  exact e
theorem SetM.to (M : SetM P w h a L) (k : ∀ o, h.get? a = some o → h'.get? a = some o) : SetM P w h' a L := by
  obtain ⟨o, es, ep, t, I⟩ := M
  exact ⟨o, es, ep, t, { I with at_ := k o I.at_ }⟩
theorem SetM.setOf (M : SetM P w h a L) : h.SetOf (mixKind P w) a (fun k => decide (k ∈ L)) L.length := by
  obtain ⟨o, es, ep, t, I⟩ := M
  refine ⟨o, es, ep, t, I.at_, I.ex, I.da, ents_el I.en, fun k => ?_, by rw [I.len]; exact I.sz, I.ft, I.len⟩
  rw [decide_eq_true_eq, ← I.pm.mem_iff]
  exact ents_mem I.en k
theorem SetM.perm {L' : List Key} (M : SetM P w h a L) (p : L.Perm L') : SetM P w h a L' := by
  obtain ⟨o, es, ep, t, I⟩ := M
  exact ⟨o, es, ep, t, { I with pm := I.pm.trans p, nd := p.nodup_iff.mp I.nd, sz := by rw [← p.length_eq]; exact I.sz }⟩
end
/-- k put in -/
def ins (L : List Key) (k : Key) : List Key := if k ∈ L then L else L ++ [k]
theorem ins_old {L : List Key} {k : Key} (m : k ∈ L) : ins L k = L := if_pos m
theorem ins_new {L : List Key} {k : Key} (m : k ∉ L) : ins L k = L ++ [k] := if_neg m
theorem mem_ins {L : List Key} {k j : Key} : j ∈ ins L k ↔ j ∈ L ∨ j = k := by
  unfold ins
  split
  · next m => exact ⟨.inl, fun z => z.elim id fun e => e ▸ m⟩
  · simp
theorem nd_ins {L : List Key} (n : L.Nodup) (k : Key) : (ins L k).Nodup := by
  unfold ins
  split
  · exact n
  · next m =>
    refine List.nodup_append.mpr ⟨n, by simp, fun x hx y hy e => m ?_⟩
    have e2 : y = k := by simpa using hy
    rw [← e2, ← e]
    exact hx
theorem len_ins (L : List Key) (k : Key) : (ins L k).length ≤ L.length + 1 := by
  unfold ins
  split
  · omega
  · simp
section
variable {P : Program} {w : World} {A : Around} {E : Value → Shared → Prop} {s : Shared} {a : Addr} {L : List Key}
/-- the end of an add: what was laid is stored, and laid anew where it is too full -/
theorem add_end {note : Bool → Sem Unit} (hg : ∀ (b : Bool) (s₁ : Shared) (Q' : Unit → Shared → Prop), Q' () s₁ → wpAny (model P w) A (note b) Q' E s₁)
    {o : Obj} {es fs : Array (Int × Value)} {ep : Nat} {t u : SetTable} (ho : s.heap.get? a = some o) (hex : o.ExactSet) (hd : o.data = .set es ep t)
    (en : ∀ e ∈ fs.toList, Ent P w e) (pm : (fs.toList.map eK).Perm L) (nd : L.Nodup) (sz : L.length < scanBound) (ft : u.fits fs.size = true) (ri : Ris u.place.toList) (le : w.params.followText "set-order" = true ∨ u.led = true)
    {dummy : Bool} {R : Option Bool → Shared → Prop} (hR : ∀ g, Heap.SameBut a s.heap g → SetM P w g a L → R (some true) { s with heap := g }) :
    wpAny (model P w) A (do
        storeSet a fs u
        if (!dummy && u.tooFull) = true then do
            note (relayAll u fs (SetTable.grown fs.size)).2.2
            storeSet a (relayAll u fs (SetTable.grown fs.size)).1 (relayAll u fs (SetTable.grown fs.size)).2.1
            pure (some true)
          else pure (some true)) R E s := by
  have fsz : fs.size = L.length := by
    have e := pm.length_eq
    rw [List.length_map, Array.length_toList] at e
    exact e
  have fb : fs.size < scanBound := by rw [fsz]; exact sz
  have o1 := store_at (es' := fs) (t' := u) ho hd
  have b1 := Heap.SameBut.update s.heap a (Obj.putSet fs u)
  refine wpAny_bind (wpAny_storeSet_of ho hd ?_ (fits_of_scanBound fb))
  by_cases full : (!dummy && u.tooFull) = true
  · rw [if_pos full]
    have p2 := relayAll_perm u fs (SetTable.grown fs.size)
    have f2 := relayAll_fits u fs (SetTable.grown fs.size)
    have r2 := relayAll_ris u fs (SetTable.grown fs.size)
    have l2 := relayAll_led u fs (SetTable.grown fs.size)
    generalize relayAll u fs (SetTable.grown fs.size) = Z at p2 f2 r2 l2 ⊢
    obtain ⟨gs, v, gave⟩ := Z
    dsimp only at p2 f2 r2 l2 ⊢
    have gsz : gs.size = fs.size := by
      have e := p2.length_eq
      rw [Array.length_toList, Array.length_toList] at e
      exact e
    have gb : gs.size < scanBound := by omega
    refine wpAny_bind (hg _ _ _ (wpAny_bind (wpAny_storeSet_of o1 rfl ?_ (fits_of_scanBound gb))))
    have o2 := store_at (es' := gs) (t' := v) o1 rfl
    exact wpAny_pure (hR _ (b1.trans (Heap.SameBut.update _ a _)) ⟨_, gs, _, v,
      { at_ := o2, ex := hex, da := rfl, en := fun e he => en e (p2.mem_iff.mp he), pm := (p2.map eK).trans pm, nd := nd, sz := sz, ft := f2, ri := r2, le := le.imp id fun z => by rw [l2]; exact z }⟩)
  · rw [if_neg full]
    exact wpAny_pure (hR _ b1 ⟨_, fs, _, u, { at_ := o1, ex := hex, da := rfl, en := en, pm := pm, nd := nd, sz := sz, ft := ft, ri := ri, le := le }⟩)
theorem add_hashed {k : Key} {x : Value} (rx : RelV (kV k) x) {Q : Bool → Shared → Prop} (M : SetM P w s.heap a L) (room : L.length + 1 < scanBound)
    (hQ : ∀ g b, Heap.SameBut a s.heap g → SetM P w g a (ins L k) → Q b { s with heap := g }) :
    wpAny (model P w) A (setAddHashed a x ((mixKind P w).hash k)) Q E s := by
  obtain ⟨o, es, ep, t, I⟩ := M
  have ik : (mixKind P w).is k x = true := kV_is rx
  have sc : x.scannable = true := key_scan rx
  have el : ElemsOf (mixKind P w) es.toList := ents_el I.en
  have eb : es.size < scanBound := by rw [I.len]; exact I.sz
  unfold setAddHashed setAddHashedIn
  refine wpAny_holding (wpAny_bind (wpAny_setState_of I.at_ I.da I.ft ?_))
  dsimp only
  rw [byScan_of sc eb el]
  simp only [↓reduceIte]
  unfold setAddByScan
  refine wpAny_bind (wpAny_bind (wpAny_rule (wpAny_bind (wpAny_setScan_of ik I.at_ I.da I.ft el ?_))))
  cases found : List.findIdx? (fun e => (mixKind P w).is k e.2) es.toList with
  | some j =>
    obtain ⟨hj, pj, _⟩ := List.findIdx?_eq_some_iff_getElem.mp found
    have old : k ∈ L := I.pm.mem_iff.mp ((ents_mem I.en k).2 ⟨_, List.getElem_mem hj, pj⟩)
    dsimp only
    refine wpAny_pure (wpAny_pure (hQ s.heap _ (Heap.SameBut.refl a s.heap) ?_))
    rw [ins_old old]
    exact ⟨o, es, ep, t, I⟩
  | none =>
    dsimp only
    have new : k ∉ L := fun z => by
      obtain ⟨e, he, q⟩ := (ents_mem I.en k).1 (I.pm.mem_iff.mpr z)
      have c := List.findIdx?_eq_none_iff.mp found e he
      rw [q] at c
      cases c
    have note : ∀ (b : Bool) (s₁ : Shared) (Q' : Unit → Shared → Prop), Q' () s₁ → wpAny (model P w) A (match b with | true => rule "set.scan.the-table-gave-way" | false => pure ()) Q' E s₁ := by
      intro b s₁ Q' q
      cases b
      · exact wpAny_pure q
      · exact wpAny_rule q
    have p1 := layNew_perm t es ((mixKind P w).hash k) x
    have f1 := layNew_fits t es ((mixKind P w).hash k) x
    have r1 := layNew_ris t es ((mixKind P w).hash k) x I.ri
    have l1 := layNew_led t es ((mixKind P w).hash k) x
    generalize layNew t es ((mixKind P w).hash k) x = Z at p1 f1 r1 l1 ⊢
    obtain ⟨fs, u, dummy, gave⟩ := Z
    dsimp only at p1 f1 r1 l1 ⊢
    rw [Array.toList_push] at p1
    have p2 : fs.toList.Perm (es.toList ++ [((mixKind P w).hash k, x)]) := p1
    have p3 : (fs.toList.map eK).Perm (L ++ [k]) := by
      have z := p2.map eK
      rw [List.map_append] at z
      have ek : eK ((mixKind P w).hash k, x) = k := kOf_rel rx
      rw [show List.map eK [((mixKind P w).hash k, x)] = [k] from by rw [List.map_cons, ek] <;> rfl] at z
      exact z.trans (I.pm.append_right _)
    have e1 : ∀ e ∈ fs.toList, Ent P w e := fun e he => by
      rcases List.mem_append.mp (p2.mem_iff.mp he) with z | z
      · exact I.en e z
      · rw [List.mem_singleton.mp z]
        exact ⟨k, rx, rfl⟩
    have n1 : (L ++ [k]).Nodup := by
      rw [← ins_new new]
      exact nd_ins I.nd k
    have z1 : (L ++ [k]).length < scanBound := by
      rw [List.length_append]
      exact room
    have led1 : w.params.followText "set-order" = true ∨ u.led = true := I.le.imp id fun z => by rw [l1]; exact z
    have fin : ∀ g, Heap.SameBut a s.heap g → SetM P w g a (L ++ [k]) → Q true { s with heap := g } := fun g sb m => hQ g true sb (by rw [ins_new new]; exact m)
    refine wpAny_bind (note _ _ _ ?_)
    split
    · refine wpAny_bind ?_
      rw [hashByValue_scannable 8 sc]
      refine wpAny_pure (add_end note I.at_ I.ex I.da e1 p3 n1 z1 ?_ ?_ ?_ fun g sb m => wpAny_pure (fin g sb m))
      · first | exact f1 | (split <;> first | exact f1 | exact SetTable.fits_plain_off f1)
      · first | exact r1 | (split <;> exact r1)
      · first | exact led1 | (split <;> exact led1)
    · refine wpAny_bind (wpAny_pure ?_)
      simp only [↓reduceIte]
      exact add_end note I.at_ I.ex I.da e1 p3 n1 z1 f1 r1 led1 fun g sb m => wpAny_pure (fin g sb m)
end
end PSS

set_option Elab.async false
set_option linter.all false
set_option maxRecDepth 100000
set_option maxHeartbeats 8000000
/-! set(xs) of a list or a tuple of keys -/
namespace PSS
open PySem PySem.Spec PyProof.Rows L2
/-- the different keys of a list, in sequence -/
def sof (ks : List Key) : List Key := ks.foldl ins []
theorem sof_app (ks : List Key) (k : Key) : sof (ks ++ [k]) = ins (sof ks) k := by
  unfold sof
  rw [List.foldl_append]
  rfl
theorem sof_take {ks : List Key} {i : Nat} {k : Key} (h : ks[i]? = some k) : sof (ks.take (i + 1)) = ins (sof (ks.take i)) k := by
  rw [List.take_add_one, h]
  exact sof_app _ _
theorem foldl_nd : ∀ (ks L : List Key), L.Nodup → (ks.foldl ins L).Nodup
  | [], _, h => h
  | k :: ks, _, h => foldl_nd ks _ (nd_ins h k)
theorem foldl_mem : ∀ (ks L : List Key) (j : Key), j ∈ ks.foldl ins L ↔ j ∈ L ∨ j ∈ ks
  | [], L, j => by simp
  | k :: ks, L, j => by
    rw [List.foldl_cons, foldl_mem ks (ins L k) j, mem_ins, List.mem_cons]
    exact or_assoc
theorem foldl_len : ∀ (ks L : List Key), (ks.foldl ins L).length ≤ L.length + ks.length
  | [], _ => Nat.le_refl _
  | k :: ks, L => by
    have a := foldl_len ks (ins L k)
    have b := len_ins L k
    rw [List.foldl_cons, List.length_cons]
    omega
theorem nd_sof (ks : List Key) : (sof ks).Nodup := foldl_nd ks [] List.nodup_nil
theorem mem_sof {ks : List Key} {j : Key} : j ∈ sof ks ↔ j ∈ ks := by
  rw [show sof ks = ks.foldl ins [] from rfl, foldl_mem]
  simp
theorem len_sof (ks : List Key) : (sof ks).length ≤ ks.length := by
  have a := foldl_len ks []
  simpa [sof] using a
theorem led0 (w : World) : w.params.followText "set-order" = true ∨ (SetTable.fresh 0 0 (!w.params.followText "set-order")).led = true := by
  show _ ∨ (!w.params.followText "set-order") = true
  cases w.params.followText "set-order"
  · exact .inr rfl
  · exact .inl rfl
section
variable {prog : Program} {w : World} {A : Around} {E : Value → Shared → Prop} {s : Shared}
/-- a built-in class is called: its __new__, the check of its __init__, its __init__ -/
theorem type_run {T nid iid : String} {Bi : Builtin} {xs : List Value} {Q Q₁ : Value → Shared → Prop} (ft : TypeCalled T nid iid) (ok : checkTypeCall T ⟨xs, []⟩ = pure ()) (ent : entryFor table iid = some Bi)
    (new : codeAny (model prog w) A.in1 (.call (.builtin nid) ⟨.type T :: xs, []⟩) (wants Q₁ E) s)
    (next : ∀ x s₁, Q₁ x s₁ → s₁.TypeIs x T ∧ codeAny (model prog w) A.in1 (.call (.builtin iid) ⟨x :: xs, []⟩) (wants (fun r s₂ => r = .none ∧ Q x s₂) E) s₁) :
    wpAny (model prog w) A (call (.type T) xs) Q E s := by
  obtain ⟨c, tl, z0⟩ := ft.mro
  have z1 := ft.made
  have z2 := ft.sub
  refine wpAny_call (codeAny_of_tree ?_)
  show wpAny _ _ (callAny (.type T) _) _ _ _
  refine wpAny_pure ⟨Code.quiet_builtin _ (by decide +kernel), codeAny_builtin F.entry_type_call ?_⟩
  rw [Around.under_plain (weight_type_call_type T xs []) rfl]
  have z3 := ft.notType
  have z4 := ft.canCreate
  repeat (any_goals (first | assumption | wp_step))
  refine codeAny_mono new fun r s₁ hr => ?_
  cases r with
  | error e => exact hr
  | ok fl =>
    cases fl with
    | ret x =>
      obtain ⟨tx, cx⟩ := next _ _ hr
      have z5 := ft.init.lookup
      have z6 := ft.init.bind x
      repeat (any_goals (first | assumption | wp_step))
      refine codeAny_mono cx fun r₂ s₂ hr₂ => ?_
      cases r₂ with
      | error e => exact hr₂
      | ok fl₂ =>
        cases fl₂ with
        | ret r =>
          obtain ⟨rfl, q⟩ := hr₂
          repeat (any_goals (first | assumption | wp_step))
        | _ => exact hr₂.elim
    | _ => exact hr.elim
end
abbrev clean (w : World) : Obj := { cls := .type "set", dict := none, data := .set #[] 0 (.fresh 0 0 (!w.params.followText "set-order")) }
section
variable {P : Program} {w : World} {A : Around} {E : Value → Shared → Prop} {s : Shared}
theorem setM_clean {h : Heap} {a : Addr} (ha : h.get? a = some (clean w)) : SetM P w h a [] :=
  ⟨_, #[], 0, _, { at_ := ha, ex := ⟨rfl, rfl, rfl⟩, da := rfl, en := (fun e he => by simp at he), pm := .nil, nd := List.nodup_nil, sz := (by decide), ft := (by rfl), ri := List.Pairwise.nil, le := led0 w }⟩
theorem upd_loop {I : Addr} {fp wr : List Addr} {G : Array GenState → Array GenState → Prop} {n : Nat} {Pv : Nat → Value → Prop} {St : Nat → Shared → Prop} {R : Result → Shared → Prop}
    (W : WalksS P w A.in1 I fp wr G n Pv St) {a : Addr} (ha : a ∉ fp) {ks : List Key} (hn : n = ks.length) (few : ks.length + 1 < scanBound) (hv : ∀ i v, Pv i v → ∃ k, ks[i]? = some k ∧ RelV (kV k) v) :
    ∀ (m i : Nat) (s : Shared), n - i = m → i ≤ n → St i s → SetM P w s.heap a (sof (ks.take i)) →
      (∀ s', Moved (a :: wr) G s s' → SetM P w s'.heap a (sof ks) → R (.ok (.ret .none)) s') →
      codeAny (model P w) A (.builtin "set.update.loop" ⟨[.ref a, .ref I], []⟩) R s := by
  have haw : a ∉ wr := fun z => ha (W.sub _ z)
  have more : ∀ b ∈ wr, b ∈ a :: wr := fun b z => List.mem_cons_of_mem _ z
  intro m
  induction m with
  | zero =>
    intro i s hm hi st M hR
    obtain rfl : i = n := by omega
    refine codeAny_builtin F.entry_set_update_loop ?_
    rw [Around.under_plainId F.plain_set_update_loop _]
    show wpAny _ A.in1 (pyNext (.ref I) >>= _) _ _ s
    refine wpAny_bind (W.done s _ _ st fun s' mv => ?_)
    show wpAny _ A.in1 (ret Value.none) _ _ s'
    refine wpAny_pure (hR s' (mv.mono more) ?_)
    have M2 := M.to fun o e => mv.heap a o haw e
    rw [hn, List.take_length] at M2
    exact M2
  | succ m ih =>
    intro i s hm hi st M hR
    have lt : i < n := by omega
    refine codeAny_builtin F.entry_set_update_loop ?_
    rw [Around.under_plainId F.plain_set_update_loop _]
    show wpAny _ A.in1 (pyNext (.ref I) >>= _) _ _ s
    refine wpAny_bind (W.item i s _ _ lt st fun v s1 hP st1 mv => ?_)
    obtain ⟨k, hk, rv⟩ := hv i v hP
    have M1 := M.to fun o e => mv.heap a o haw e
    have few1 : (sof (ks.take i)).length + 1 < scanBound := by
      have z := len_sof (ks.take i)
      rw [List.length_take] at z
      omega
    show wpAny _ A.in1 (holding [v] (setAdd a v) >>= _) _ _ s1
    refine wpAny_bind (wpAny_holding ?_)
    unfold setAdd
    refine wpAny_holding (wpAny_bind ((mixKind P w).pyHash (kV_is rv) ?_))
    refine add_hashed (s := { s1 with toks := s1.toks + 1 }) rv M1 few1 fun g b sb M2 => ?_
    rw [← sof_take hk] at M2
    refine wpAny_pure ⟨plainId_quiet F.plain_set_update_loop _, ih (i + 1) _ (by omega) lt (W.frame _ s1 _ _ st1 (Nat.le_succ _) fun b hb o e => ?_) M2 fun s2 mv2 M3 => ?_⟩
    · rw [sb.2 b fun z : b = a => ha (z ▸ hb)]
      exact e
    · refine hR s2 (Moved.trans W.gtrans ((mv.mono more).then_heap (Nat.le_succ _) fun b o hb e => ?_) mv2) M3
      rw [sb.2 b fun z : b = a => hb (z ▸ List.mem_cons_self)]
      exact e
theorem vals_at {ks : List Key} {us : List Value} (r : Vals (ks.map kV) us) {i : Nat} {v : Value} (h : us[i]? = some v) : ∃ k, ks[i]? = some k ∧ RelV (kV k) v := by
  have lt : i < ks.length := by
    have e := r.length
    rw [List.length_map] at e
    rw [e]
    exact (List.getElem?_eq_some_iff.mp h).1
  obtain ⟨u, hu, ru⟩ := r.get (i := i) (x := kV ks[i]) (by simp [lt])
  rw [h] at hu
  cases hu
  exact ⟨ks[i], List.getElem?_eq_getElem lt, ru⟩
theorem call_set {l : Addr} {us : List Value} {ks : List Key} {Q : Value → Shared → Prop} (hh : A.handled = none) (hl : s.heap.IsList l us.toArray ∨ s.heap.IsTuple l us.toArray) (rv : Vals (ks.map kV) us) (few : ks.length + 1 < scanBound)
    (q : ∀ (g : Heap) (tk : Nat), SetM P w g s.heap.objs.size (sof ks) → (∀ b o, s.heap.get? b = some o → g.get? b = some o) → Q (.ref s.heap.objs.size) { s with heap := g, toks := tk }) :
    wpAny (model P w) A (call (.type "set") [.ref l]) Q E s := by
  refine type_run (Q₁ := fun x s₁ => x = .ref s.heap.objs.size ∧ s₁ = { s with heap := s.heap.push (clean w) }) F.called_set (F.typeCall_set_1 _) F.entry_set_init (code_set_led1 (.ref l) ⟨rfl, rfl⟩) fun x s₁ hx => ?_
  obtain ⟨rfl, rfl⟩ := hx
  have aS : (s.heap.push (clean w)).get? s.heap.objs.size = some (clean w) := Heap.get?_push_size _ rfl
  have tS : Shared.TypeIs { s with heap := s.heap.push (clean w) } (.ref s.heap.objs.size) "set" := ⟨_, aS, rfl⟩
  refine ⟨tS, codeAny_call_builtin F.called_set.init.plain F.entry_set_init (check_set_init_1 tS ?_)⟩
  have lS : l < s.heap.objs.size := by
    rcases hl with ⟨o, e, _⟩ | ⟨o, e, _⟩ <;> exact Heap.lt_size e
  have hh3 : A.in1.in1.in1.handled = none := by simp [hh]
  have nI : l ≠ (s.heap.push (clean w)).objs.size := by
    rw [Heap.size_push]
    exact Nat.ne_of_lt (Nat.lt_succ_of_lt lS)
  have nS : s.heap.objs.size ∉ [(s.heap.push (clean w)).objs.size, l] := by
    rw [Heap.size_push]
    simp only [List.mem_cons, List.not_mem_nil, or_false, not_or]
    exact ⟨Nat.ne_of_lt (Nat.lt_succ_self _), Nat.ne_of_gt lS⟩
  have hv : ∀ (i : Nat) (v : Value), us.toArray[i]? = some v → ∃ k, ks[i]? = some k ∧ RelV (kV k) v := fun i v e => vals_at rv (by rw [List.getElem?_toArray] at e; exact e)
  have hn : us.toArray.size = ks.length := by rw [List.size_toArray, ← rv.length, List.length_map]
  rcases hl with hl | hl
  · obtain ⟨⟨ocls, odict, odata, oslots⟩, hol, hcl, nl, hdl⟩ := hl
    simp only at hcl hdl
    subst hcl hdl
    have hol1 : (s.heap.push (clean w)).get? l = some { cls := .type "list", dict := odict, data := .seq us.toArray nl, slots := oslots } := Heap.get?_push_of_some _ hol
    have y1 := F.sub_list_set
    have y2 := F.sub_list_frozenset
    have y3 : (Value.type "list" == Value.type "dict") = false := by decide
    have hl1 : (s.heap.push (clean w)).IsList l us.toArray := ⟨_, hol1, rfl, nl, rfl⟩
    unfold Builtin.«set.__init__» noKeywords Builtin.Frozenset.updateFrom
    generalize hPI : pyIter = PI
    wp_walk
    subst hPI

    refine wpAny_pyIter_list hl1 (wpAny_bind (wpAny_runValue ?_))
    refine upd_loop ((Walks.list hh3 _ l nI us.toArray).toS) nS hn few hv (us.toArray.size - 0) 0 _ (by omega) (Nat.zero_le _) ⟨⟨_, Heap.get?_push_size _ rfl, rfl, rfl⟩, hl1.push _⟩ (setM_clean (Heap.get?_push_of_some _ aS)) fun s' mv M => ?_
    obtain ⟨h', g', d', tk', os'⟩ := s'
    obtain rfl : g' = s.gens := mv.gens
    obtain rfl : d' = s.drawn := mv.drawn
    obtain rfl : os' = s.os := mv.os
    show wpAny _ _ _ _ _ _
    refine wpAny_pure ?_
    show wpAny _ _ (ret Value.none) _ _ _
    refine wpAny_pure ⟨rfl, q h' tk' M fun b o e => ?_⟩
    have lt := Heap.lt_size e
    refine mv.heap b o ?_ (Heap.get?_push_of_some _ (Heap.get?_push_of_some _ e))
    simp only [List.mem_cons, List.not_mem_nil, or_false, not_or]
    exact ⟨Nat.ne_of_lt lt, by rw [Heap.size_push]; exact Nat.ne_of_lt (Nat.lt_succ_of_lt lt)⟩
  · obtain ⟨⟨ocls, odict, odata, oslots⟩, hol, hcl, nl, hdl⟩ := hl
    simp only at hcl hdl
    subst hcl hdl
    have hol1 : (s.heap.push (clean w)).get? l = some { cls := .type "tuple", dict := odict, data := .seq us.toArray nl, slots := oslots } := Heap.get?_push_of_some _ hol
    have y1 := F.sub_tuple_set
    have y2 := F.sub_tuple_frozenset
    have y3 : (Value.type "tuple" == Value.type "dict") = false := by decide
    have hl1 : (s.heap.push (clean w)).IsTuple l us.toArray := ⟨_, hol1, rfl, nl, rfl⟩
    unfold Builtin.«set.__init__» noKeywords Builtin.Frozenset.updateFrom
    generalize hPI : pyIter = PI
    wp_walk
    subst hPI

    refine wpAny_pyIter_tuple hl1 (wpAny_bind (wpAny_runValue ?_))
    refine upd_loop ((Walks.tuple hh3 _ l nI us.toArray).toS) nS hn few hv (us.toArray.size - 0) 0 _ (by omega) (Nat.zero_le _) ⟨⟨_, Heap.get?_push_size _ rfl, rfl, rfl⟩, hl1.push _⟩ (setM_clean (Heap.get?_push_of_some _ aS)) fun s' mv M => ?_
    obtain ⟨h', g', d', tk', os'⟩ := s'
    obtain rfl : g' = s.gens := mv.gens
    obtain rfl : d' = s.drawn := mv.drawn
    obtain rfl : os' = s.os := mv.os
    show wpAny _ _ _ _ _ _
    refine wpAny_pure ?_
    show wpAny _ _ (ret Value.none) _ _ _
    refine wpAny_pure ⟨rfl, q h' tk' M fun b o e => ?_⟩
    have lt := Heap.lt_size e
    refine mv.heap b o ?_ (Heap.get?_push_of_some _ (Heap.get?_push_of_some _ e))
    simp only [List.mem_cons, List.not_mem_nil, or_false, not_or]
    exact ⟨Nat.ne_of_lt lt, by rw [Heap.size_push]; exact Nat.ne_of_lt (Nat.lt_succ_of_lt lt)⟩
end
end PSS

set_option Elab.async false
set_option linter.all false
set_option maxRecDepth 100000
set_option maxHeartbeats 8000000
/-! sets of keys as tracked things: set(xs), len, in, sorted -/
namespace PSG
open PySem PySem.Spec L2 PSS
open PyProof.Rows (IntsAre AllBare StrsAre)
def SetMO (P : Program) (w : World) (a : Addr) (L : List Key) : HO := .ext fun h => SetM P w h a L
theorem setMO_new {P : Program} {w : World} {H : Hp} {h : Heap} {a : Addr} {L : List Key} (M : SetM P w h a L) : ObjOk P w H h a (SetMO P w a L) := by
  have ⟨o, es, ep, t, J⟩ := M
  exact ⟨M, ⟨o, J.at_⟩, fun h1 h2 p k => p.to k⟩
section
variable {X : Cx}
theorem setMO_get {pins : List (Addr × Obj)} {σ : L2.St} {H : Hp} {s : Shared} {a : Addr} {L : List Key} (I : Inv X pins σ H s) (ha : H a = some (SetMO X.prog X.w a L)) : SetM X.prog X.w s.heap a L := (I.hok a _ ha).1
/-- set(xs) -/
def rSetOf (K : PySem.W.Frag) (P : Program) (w : World) : List V → Hp → VK → Prop := fun xs H Q => ∃ (l : Addr) (ks : List Key), xs = [.ref l] ∧ (SqL K H l (ks.map kV) ∨ SqT K H l (ks.map kV)) ∧ ks.length ≤ 1000 ∧
  ∀ a, H a = none → Q (.ref a) (upd H a (SetMO P w a (sof ks)))
theorem cr_setOf (hc : X.calm = true) : CallR X (.type "set") (rSetOf X.K X.prog X.w) := by
  intro pins s σ H xs us Q I r h
  obtain ⟨l, ks, rfl, hl, few, q⟩ := h
  rw [Vals.ref1 r]
  have hn : H s.heap.objs.size = none := I.hok.fresh (Nat.le_refl _)
  have fin : ∀ (its : List Value), Vals (ks.map kV) its → (s.heap.IsList l its.toArray ∨ s.heap.IsTuple l its.toArray) → wpAny (model X.prog X.w) X.A (call (.type "set") [.ref l]) (EP X pins σ Q) X.xe s := fun its rv hs =>
    call_set (P := X.prog) (w := X.w) (I.ok.hd hc) hs rv (by unfold scanBound; omega) fun g tk M k => ⟨.ref s.heap.objs.size, _, I.laid (t' := tk) k (Nat.le_refl _) (setMO_new M), rfl, q _ hn⟩
  rcases hl with hl | hl
  · obtain ⟨its, rv, pl, hz⟩ := I.list hl
    exact fin its rv (.inl pl.isList)
  · obtain ⟨its, rv, pl, hz⟩ := I.tuple hl
    exact fin its rv (.inr pl)
/-- len(a set) -/
def rLenM (P : Program) (w : World) : List V → Hp → VK → Prop := fun xs H Q => ∃ (a : Addr) (L : List Key), xs = [.ref a] ∧ H a = some (SetMO P w a L) ∧ Q (.int L.length) H
theorem cr_lenM : CallR X (.builtin "len") (rLenM X.prog X.w) := by
  intro pins s σ H xs us Q I r h
  obtain ⟨a, L, rfl, ha, q⟩ := h
  rw [Vals.ref1 r]
  obtain ⟨o, es, ep, t, J⟩ := setMO_get I ha
  have few : L.length < scanBound := J.sz
  refine call_len_set J.at_ J.ex J.da J.ft (by rw [J.len]; unfold scanBound at few; omega) ⟨.int L.length, H, I.tok _, ⟨_, by rw [J.len]⟩, q⟩
/-- k in a set -/
def rInM (P : Program) (w : World) (neg : Bool) : V → V → Hp → VK → Prop := fun x y H Q => ∃ (k : Key) (a : Addr) (L : List Key), x = kV k ∧ y = .ref a ∧ H a = some (SetMO P w a L) ∧ Q (.bl (if neg then !decide (k ∈ L) else decide (k ∈ L))) H
theorem op_inM : OpR X (compareOp .In) (rInM X.prog X.w false) := by
  intro pins s σ H x y v u Q I rx ry h
  obtain ⟨k, a, L, rfl, rfl, ha, q⟩ := h
  cases ry
  exact wpAny_inSet_of (kV_is rx) (key_scan rx) (setMO_get I ha).setOf ⟨.bl (decide (k ∈ L)), H, I.tok _, rfl, q⟩
theorem op_notInM : OpR X (compareOp .NotIn) (rInM X.prog X.w true) := by
  intro pins s σ H x y v u Q I rx ry h
  obtain ⟨k, a, L, rfl, rfl, ha, q⟩ := h
  cases ry
  exact wpAny_notInSet_of (kV_is rx) (key_scan rx) (setMO_get I ha).setOf ⟨.bl (!decide (k ∈ L)), H, I.tok _, rfl, q⟩
/-! sorted -/
theorem len_of_key {P : Program} {w : World} {h : Heap} {a : Addr} {L : List Key} {o : Obj} {es : Array (Int × Value)} {ep : Nat} {t : SetTable} {vs : List Value} (J : Is P w h a L o es ep t) (pm : vs.Perm (es.toList.map (·.2))) : vs.length = L.length := by
  rw [pm.length_eq, List.length_map, Array.length_toList, J.len]
theorem keys_perm {P : Program} {w : World} {h : Heap} {a : Addr} {L : List Key} {o : Obj} {es : Array (Int × Value)} {ep : Nat} {t : SetTable} {vs : List Value} (J : Is P w h a L o es ep t) (pm : vs.Perm (es.toList.map (·.2))) : (vs.map kOf).Perm L := by
  have z := pm.map kOf
  rw [List.map_map] at z
  exact z.trans J.pm
theorem keys_rel {P : Program} {w : World} {h : Heap} {a : Addr} {L : List Key} {o : Obj} {es : Array (Int × Value)} {ep : Nat} {t : SetTable} {vs : List Value} (J : Is P w h a L o es ep t) (pm : vs.Perm (es.toList.map (·.2))) : ∀ v ∈ vs, RelV (kV (kOf v)) v := by
  intro v hv
  obtain ⟨e, he, q⟩ := List.mem_map.mp (pm.mem_iff.mp hv)
  obtain ⟨k, r, _⟩ := J.en e he
  rw [← q, kOf_rel r]
  exact r
def isIK : Key → Prop := fun k => ∃ i, k = .inl i
def isSK : Key → Prop := fun k => ∃ x, k = .inr x
def gI : Value → Int := fun v => match kOf v with | .inl i => i | .inr _ => 0
def gS : Value → Str := fun v => match kOf v with | .inr x => x | .inl _ => Str.empty
theorem ints_of_keys : ∀ {vs : List Value}, (∀ v ∈ vs, RelV (kV (kOf v)) v ∧ isIK (kOf v)) → IntsAre vs (vs.map gI) ∧ vs.map kOf = (vs.map gI).map Sum.inl
  | [], _ => ⟨.nil, rfl⟩
  | v :: vs, h => by
    obtain ⟨h1, h2⟩ := ints_of_keys (vs := vs) fun u m => h u (List.mem_cons_of_mem _ m)
    obtain ⟨r, i, e⟩ := h v List.mem_cons_self
    rw [e] at r
    obtain ⟨t, rfl⟩ := r
    have g : gI (Value.int i t) = i := rfl
    refine ⟨?_, ?_⟩
    · rw [List.map_cons, g]
      exact .cons i t h1
    · rw [List.map_cons, List.map_cons, List.map_cons, h2, g]
      rfl
theorem strs_of_keys : ∀ {vs : List Value}, (∀ v ∈ vs, RelV (kV (kOf v)) v ∧ isSK (kOf v)) → StrsAre vs (vs.map gS) ∧ vs.map kOf = (vs.map gS).map Sum.inr
  | [], _ => ⟨.nil, rfl⟩
  | v :: vs, h => by
    obtain ⟨h1, h2⟩ := strs_of_keys (vs := vs) fun u m => h u (List.mem_cons_of_mem _ m)
    obtain ⟨r, x, e⟩ := h v List.mem_cons_self
    rw [e] at r
    obtain ⟨t, rfl⟩ := r
    have g : gS (Value.str x t) = x := rfl
    refine ⟨?_, ?_⟩
    · rw [List.map_cons, g]
      exact .cons x t h1
    · rw [List.map_cons, List.map_cons, List.map_cons, h2, g]
      rfl
theorem nodup_of_map {α β : Type} {f : α → β} {l : List α} (h : (l.map f).Nodup) : l.Nodup := List.Pairwise.of_map f (fun _ _ hne e => hne (congrArg f e)) h
theorem mem_map_inl {ns : List Int} {i : Int} : (Sum.inl i : Key) ∈ ns.map (Sum.inl : Int → Key) ↔ i ∈ ns := by
  rw [List.mem_map]
  exact ⟨fun ⟨j, m, e⟩ => by cases e; exact m, fun m => ⟨i, m, rfl⟩⟩
theorem mem_map_inr {ns : List Str} {i : Str} : (Sum.inr i : Key) ∈ ns.map (Sum.inr : Str → Key) ↔ i ∈ ns := by
  rw [List.mem_map]
  exact ⟨fun ⟨j, m, e⟩ => by cases e; exact m, fun m => ⟨i, m, rfl⟩⟩
/-- sorted(a set of whole numbers) -/
def rSortM (P : Program) (w : World) : List V → Hp → VK → Prop := fun vs H Q => ∃ (a : Addr) (L : List Key), vs = [.ref a] ∧ H a = some (SetMO P w a L) ∧ L.length < 64 ∧ (∀ k ∈ L, isIK k) ∧
  ∀ (ns : List Int) (p : Addr), ns.Pairwise (· < ·) → (∀ i : Int, i ∈ ns ↔ (Sum.inl i : Key) ∈ L) → ns.length = L.length → H p = none → Q (.ref p) (upd H p (.lst (ns.map V.int)))
theorem cr_sortM (hc : X.calm = true) : CallR X (.builtin "sorted") (rSortM X.prog X.w) := by
  intro pins s σ H xs us Q I r h
  obtain ⟨a, L, rfl, ha, few, ik, q⟩ := h
  rw [Vals.ref1 r]
  obtain ⟨o, es, ep, t, J⟩ := setMO_get I ha
  refine Calls.call_function_entry PyProof.Rows.kind_sorted PyProof.Rows.plain_sorted PyProof.Rows.entry_sorted (PyProof.Rows.args_sorted1 _) ?_
  unfold Builtin.«sorted»
  refine wpAny_bind (m := checkCount "sorted" 1 1 _) (wpAny_pure ?_)
  refine wpAny_bind (collect_set (A := X.A.in1) (I.ok.hd hc) ⟨o, J.at_, J.ex.1, J.da⟩ J.ft (by rw [J.len]; exact J.sz) J.ri J.le fun s1 vs k1 z1 g1 o1 pm => ?_)
  have vl := len_of_key J pm
  have kp := keys_perm J pm
  have kr := keys_rel J pm
  obtain ⟨ia, im⟩ := ints_of_keys fun v m => ⟨kr v m, ik _ (kp.mem_iff.mp (List.mem_map_of_mem m))⟩
  obtain ⟨g, b, d, tk, os⟩ := s1
  dsimp only at k1 z1 g1 o1 ⊢
  subst g1 o1
  have I1 : Inv X pins σ H { s with heap := g, drawn := d, toks := tk } := I.call (ch := []) (Un.kept k1) (I.hok.kept k1) I.bare (fun _ z => nomatch z)
  refine wpAny_bind (wpAny_newList ?_ (by rw [vl, sizeLine_eq]; omega))
  have aL : (g.push (PyProof.Rows.seqObj "list" vs.toArray 0)).get? g.objs.size = some (PyProof.Rows.seqObj "list" vs.toArray 0) := Heap.get?_push_size _ rfl
  refine wpAny_bind (wpAny_holding (wpAny_call_entry PyProof.Rows.slot_list_sort ⟨_, aL, rfl⟩ PyProof.Rows.entry_list_sort (PyProof.Rows.list_sort_tree aL ia (by rw [vl]; exact few) fun out ns a1 a2 a3 => ⟨_, rfl, ?_⟩) (PyProof.Rows.args_list_sort _)))
  obtain ⟨c, hcc⟩ := PyProof.Rows.sortedHeap_at (vs := vs) (out := out) aL
  have np : (ns.map (Sum.inl : Int → Key)).Perm L := (a2.map _).trans (im ▸ kp)
  have nl : ns.length = L.length := by
    have e := np.length_eq
    rw [List.length_map] at e
    exact e
  refine wpAny_pure ⟨_, rfl, .ref g.objs.size, upd H g.objs.size (.lst (ns.map V.int)), I1.laid (t' := tk) (fun b u e => ?_) (Nat.le_refl _)
    (show ObjOk X.prog X.w _ _ _ (.lst (ns.map V.int)) from ⟨by rw [List.length_map, nl, sizeLine_eq]; omega, out.toList, c, vals_of_ints a1, by rw [Array.toArray_toList]; exact hcc⟩), rfl,
    q ns _ (lt_of_le_nodup ns a3 (nodup_of_map (np.nodup_iff.mpr J.nd))) (fun i => by rw [← np.mem_iff, mem_map_inl]) nl (I1.hok.fresh (Nat.le_refl _))⟩
  have lt := Heap.lt_size e
  rw [PyProof.Rows.sortedHeap_old (Nat.ne_of_lt lt) (by rw [PyProof.Rows.size_push']; exact Nat.lt_succ_of_lt lt)]
  exact Heap.get?_push_of_some _ e
/-- sorted(a set of texts) -/
def rSortMS (P : Program) (w : World) : List V → Hp → VK → Prop := fun vs H Q => ∃ (a : Addr) (L : List Key), vs = [.ref a] ∧ H a = some (SetMO P w a L) ∧ L.length < 64 ∧ (∀ k ∈ L, isSK k) ∧
  ∀ (ys : List Str) (p : Addr), PyProof.Rows.sortedS ys = true → ys.Nodup → (∀ i : Str, i ∈ ys ↔ (Sum.inr i : Key) ∈ L) → ys.length = L.length → H p = none → Q (.ref p) (upd H p (.lst (ys.map V.str)))
theorem cr_sortMS (hc : X.calm = true) : CallR X (.builtin "sorted") (rSortMS X.prog X.w) := by
  intro pins s σ H xs us Q I r h
  obtain ⟨a, L, rfl, ha, few, ik, q⟩ := h
  rw [Vals.ref1 r]
  obtain ⟨o, es, ep, t, J⟩ := setMO_get I ha
  refine Calls.call_function_entry PyProof.Rows.kind_sorted PyProof.Rows.plain_sorted PyProof.Rows.entry_sorted (PyProof.Rows.args_sorted1 _) ?_
  unfold Builtin.«sorted»
  refine wpAny_bind (m := checkCount "sorted" 1 1 _) (wpAny_pure ?_)
  refine wpAny_bind (collect_set (A := X.A.in1) (I.ok.hd hc) ⟨o, J.at_, J.ex.1, J.da⟩ J.ft (by rw [J.len]; exact J.sz) J.ri J.le fun s1 vs k1 z1 g1 o1 pm => ?_)
  have vl := len_of_key J pm
  have kp := keys_perm J pm
  have kr := keys_rel J pm
  obtain ⟨ia, im⟩ := strs_of_keys fun v m => ⟨kr v m, ik _ (kp.mem_iff.mp (List.mem_map_of_mem m))⟩
  obtain ⟨g, b, d, tk, os⟩ := s1
  dsimp only at k1 z1 g1 o1 ⊢
  subst g1 o1
  have I1 : Inv X pins σ H { s with heap := g, drawn := d, toks := tk } := I.call (ch := []) (Un.kept k1) (I.hok.kept k1) I.bare (fun _ z => nomatch z)
  refine wpAny_bind (wpAny_newList ?_ (by rw [vl, sizeLine_eq]; omega))
  have aL : (g.push (PyProof.Rows.seqObj "list" vs.toArray 0)).get? g.objs.size = some (PyProof.Rows.seqObj "list" vs.toArray 0) := Heap.get?_push_size _ rfl
  refine wpAny_bind (wpAny_holding (wpAny_call_entry PyProof.Rows.slot_list_sort ⟨_, aL, rfl⟩ PyProof.Rows.entry_list_sort
    (PyProof.Rows.list_sort_treeK PyProof.Rows.strKind_oneLt (s := { s with heap := g.push (PyProof.Rows.seqObj "list" vs.toArray 0), drawn := d, toks := tk }) aL ia.keysOf (fun v₁ v₂ rest e => PyProof.Rows.keyKind_strs (by rw [← e]; exact ia)) (by rw [vl]; exact few) fun st hp hs => ⟨_, rfl, ?_⟩) (PyProof.Rows.args_list_sort _)))
  obtain ⟨ys, a1, a2, a3⟩ := PyProof.Rows.sorted_out_str ia hp hs
  obtain ⟨c, hcc⟩ := PyProof.Rows.sortedHeap_at (vs := vs) (out := (PyProof.Rows.arrOf st).map (·.2)) aL
  have np : (ys.map (Sum.inr : Str → Key)).Perm L := (a2.map _).trans (im ▸ kp)
  have nl : ys.length = L.length := by
    have e := np.length_eq
    rw [List.length_map] at e
    exact e
  refine wpAny_pure ⟨_, rfl, .ref g.objs.size, upd H g.objs.size (.lst (ys.map V.str)), I1.laid (t' := tk) (fun b u e => ?_) (Nat.le_refl _)
    (show ObjOk X.prog X.w _ _ _ (.lst (ys.map V.str)) from ⟨by rw [List.length_map, nl, sizeLine_eq]; omega, ((PyProof.Rows.arrOf st).map (·.2)).toList, c, vals_of_strs a1, by rw [Array.toArray_toList]; exact hcc⟩), rfl,
    q ys _ a3 (nodup_of_map (np.nodup_iff.mpr J.nd)) (fun i => by rw [← np.mem_iff, mem_map_inr]) nl (I1.hok.fresh (Nat.le_refl _))⟩
  have lt := Heap.lt_size e
  rw [PyProof.Rows.sortedHeap_old (Nat.ne_of_lt lt) (by rw [PyProof.Rows.size_push']; exact Nat.lt_succ_of_lt lt)]
  exact Heap.get?_push_of_some _ e
end
end PSG

set_option Elab.async false
set_option linter.all false
set_option maxRecDepth 100000
set_option maxHeartbeats 8000000
/-! {e for x in xs}, e a number or a text -/
namespace PSS
open PySem PySem.Spec PyProof.Rows L2
theorem set_add {P : Program} {w : World} {A : Around} {E : Value → Shared → Prop} {s : Shared} {a : Addr} {L : List Key} {k : Key} {x : Value} (rx : RelV (kV k) x) {Q : Value → Shared → Prop} (M : SetM P w s.heap a L) (room : L.length + 1 < scanBound)
    (q : ∀ g, Heap.SameBut a s.heap g → SetM P w g a (ins L k) → Q .none { s with heap := g, toks := s.toks + 1 }) : wpAny (model P w) A (call (.builtin "set.add") [.ref a, x]) Q E s := by
  refine wpAny_call_entry F.slot_set_add M.setOf.typeIs F.entry_set_add ?_ (F.args_set_add_2 _ _)
  unfold Builtin.«set.add» Builtin.Frozenset.oneOther
  simp only [List.isEmpty_nil, bind_assoc]
  unfold Builtin.Frozenset.addrOf setAdd
  refine wpAny_bind (wpAny_pure ?_)
  try dsimp only
  refine wpAny_bind (wpAny_pure ?_)
  try dsimp only
  refine wpAny_bind (wpAny_holding (wpAny_bind ((mixKind P w).pyHash (kV_is rx) ?_)))
  refine add_hashed (s := { s with toks := s.toks + 1 }) rx M room fun g b sb M2 => ?_
  show wpAny _ _ (ret Value.none) _ _ _
  exact wpAny_pure ⟨_, rfl, q g sb M2⟩
end PSS
namespace PSG
open PySem PySem.Spec L2 PSS
section
variable {X : Cx}
theorem add_in {pins : List (Addr × Obj)} {σ : L2.St} {H : Hp} {s : Shared} {E : Value → Shared → Prop} {D : Addr} {L : List Key} {k : Key} {x : Value} {Q : Value → Shared → Prop} (I : Inv X pins σ H s) (rx : RelV (kV k) x) (hD : H D = some (SetMO X.prog X.w D L)) (room : L.length + 1 < scanBound)
    (h : ∀ s', Inv X pins σ (upd H D (SetMO X.prog X.w D (ins L k))) s' → Q .none s') : wpAny (model X.prog X.w) X.A (call (.builtin "set.add") [.ref D, x]) Q E s := by
  refine set_add rx (setMO_get I hD) room fun g sb M => ?_
  have there : ∃ u, g.get? D = some u := by
    have ⟨o, es, ep, t, J⟩ := M
    exact ⟨o, J.at_⟩
  exact h _ (I.write (e := D) (t' := s.toks + 1) (by rw [hD]; trivial) (.inl rfl) (fun b u n e => (sb.2 b n).trans e) there (setMO_new M))
/-- what a turn of the comprehension makes: the key goes into the set at D -/
abbrev PutM (P : Program) (w : World) (D : Addr) (Nx : Hp → Prop) : VK := fun y H => ∃ (k : Key) (L : List Key), y = kV k ∧ H D = some (SetMO P w D L) ∧ L.length + 1 < scanBound ∧ Nx (upd H D (SetMO P w D (ins L k)))
def tScM (P : Program) (w : World) (wi : TI) (g : TG) (tt : TT) (te : TE) (vs : List Nat) : TE := fun σ H Q => wi σ H fun J H1 => ∀ D, H1 D = none → ∃ W : Nat → Nat → Hp → Prop, (∃ m, W 0 m (upd H1 D (SetMO P w D []))) ∧ ∀ i m H, W i m H →
  (J.stop i H ∧ Q (.ref D) H) ∨ (J.go i H ∧ ∃ Nx : Hp → Prop, (∀ H', Nx H' → ∃ m', m' < m ∧ W (i + 1) m' H') ∧ ∀ x H', J.yld i H x H' → g x (wipe σ vs) H' fun σ2 H2 => wipe σ2 vs = wipe σ vs ∧ tt σ2 H2 fun b H3 =>
    if b = true then te σ2 H3 (PutM P w D Nx) else Nx H3)
theorem scM_core {pins : List (Addr × Obj)} {s : Shared} {σ : L2.St} {H : Hp} {Q : VK} {elt tg iter : Expr} {ifs : List Expr} {scope : Scope} {own : List (PySem.Str × Nat)} {pos pos' : Pos} {wi : TI} {g : TG} {tt : TT} {te : TE} {use : Option (Value → Sem Unit)} {Qf : Value → Shared → Prop}
    (hc : X.calm = true) (hN : X.N.Nodup) (I : Inv X pins σ H s) (hi : PI X tg iter wi) (ok : BlkOk X.N X.env.scope scope own)
    (hg : ∀ (s : Shared) (H : Hp) (C : Addr) (cl : List (PySem.Str × Addr)) (fp : List Addr), PG (X.blk s H scope (compEnvC scope cl C X.env) fp) tg g) (ht : ∀ (s : Shared) (H : Hp) (C : Addr) (cl : List (PySem.Str × Addr)) (fp : List Addr), PTs (X.blk s H scope (compEnvC scope cl C X.env) fp) ifs tt)
    (he : ∀ (s : Shared) (H : Hp) (C : Addr) (cl : List (PySem.Str × Addr)) (fp : List Addr), PE (X.blk s H scope (compEnvC scope cl C X.env) fp) elt te) (hs : ∀ x, foldedSetIterable iter X.env x = pure x)
    (h : tScM X.prog X.w wi g tt te (own.map (·.2)) σ H Q)
    (back : ∀ D C s' m H', Inv X pins σ H' s' → Q (.ref D) H' → s'.heap.Ns C m → FpOk X pins H' C → compPost (model X.prog X.w) X.A X.xe use Qf (.ref D) C (.ok .next) s') :
    wpAny (model X.prog X.w) X.A (comprehension (.SetComp elt [⟨tg, iter, ifs, 0⟩] scope pos) scope X.env pos' (newSet (.type "set")) false (eval iter X.env) use) Qf X.xe s := by
  have cellsOk : ∀ y ∈ scope.names, y.2 = .free → ∃ c, X.env.cells.lookup y.1 = some c := fun y hy e => (ok.free y hy e).elim (fun k => I.ok.has _ (.inl k)) fun k => I.ok.has _ (.inr k)
  refine wpAny_comprehension_free (use := use) rfl hs (closure_ok cellsOk) ok.kind (fun y hy e => by rw [ok.uniq y hy, e]) (thn (hi.run pins s σ H _ I h) fun xv s1 hx => thn hx fun itv s2 h2 => ?_)
  obtain ⟨it, fp, tn, J, H2, e, I2, T, st2, f2, q⟩ := h2
  subst e
  refine PpSet.newSet_ok (newEnv_comp ?_)
  generalize hD : s2.heap.objs.size = D
  obtain ⟨W, ⟨m0, w0⟩, turn⟩ := q D (I2.hok.fresh (Nat.le_of_eq hD))
  generalize hs3 : ({ s2 with heap := s2.heap.push (clean X.w) } : Shared) = s3
  have h3 : s3.heap = s2.heap.push (clean X.w) := by rw [← hs3]
  have I3 : Inv X pins σ (upd H2 D (SetMO X.prog X.w D [])) s3 := by
    rw [← hs3]
    refine I2.laid (t' := s2.toks) (fun b o e => Heap.get?_push_of_some _ e) (Nat.le_of_eq hD) ?_
    rw [← hD]
    exact setMO_new (setM_clean (Heap.get?_push_size _ rfl))
  have f3 : ∀ b ∈ fp, FpOk X pins (upd H2 D (SetMO X.prog X.w D [])) b ∧ b < s3.heap.objs.size := fun b hb => by
    obtain ⟨o, e, _⟩ := T.obj _ _ st2 b hb
    have lt := Heap.lt_size e
    refine ⟨⟨?_, (f2 b hb).2⟩, by rw [h3, Heap.size_push]; exact Nat.lt_succ_of_lt lt⟩
    rw [upd_ne (by rw [← hD]; exact Nat.ne_of_lt lt)]
    exact (f2 b hb).1
  have st3 : tn 0 s3.heap := T.keep _ _ _ st2 fun b _ o e => by rw [h3]; exact Heap.get?_push_of_some _ e
  have I4 := block_start I3 ok hN f3
  have pg := hg s3 (upd H2 D (SetMO X.prog X.w D [])) s3.heap.objs.size (cellsFrom (s3.heap.objs.size + 1) scope.names (cloFrom X.env.cells scope.names [])) fp
  have pt := ht s3 (upd H2 D (SetMO X.prog X.w D [])) s3.heap.objs.size (cellsFrom (s3.heap.objs.size + 1) scope.names (cloFrom X.env.cells scope.names [])) fp
  have pe := he s3 (upd H2 D (SetMO X.prog X.w D [])) s3.heap.objs.size (cellsFrom (s3.heap.objs.size + 1) scope.names (cloFrom X.env.cells scope.names [])) fp
  show codeAny _ _ (.compStart (.SetComp elt [⟨tg, iter, ifs, 0⟩] scope pos) 0 (.ref it) (.ref D) (compEnvC scope (cellsFrom (s3.heap.objs.size + 1) scope.names (cloFrom X.env.cells scope.names [])) s3.heap.objs.size X.env)) (compPost (model X.prog X.w) X.A X.xe use Qf (.ref D) s3.heap.objs.size) { s3 with heap := pushCells (s3.heap.push { cls := .type "dict", data := .dict #[] }) scope.names }
  have none3 : ∀ b ∈ fp, (upd H2 D (SetMO X.prog X.w D [])) b = none := fun b hb => (f3 b hb).1.1
  generalize hce : compEnvC scope (cellsFrom (s3.heap.objs.size + 1) scope.names (cloFrom X.env.cells scope.names [])) s3.heap.objs.size X.env = ce at I4 pg pt pe ⊢
  have cL : ce.locals = s3.heap.objs.size := by subst hce; rfl
  generalize hH3 : upd H2 D (SetMO X.prog X.w D []) = H3 at I3 I4 pg pt pe w0 none3 f3
  generalize hs4 : ({ s3 with heap := pushCells (s3.heap.push { cls := .type "dict", data := .dict #[] }) scope.names } : Shared) = s4 at I4 ⊢
  have st4 : tn 0 s4.heap := T.keep _ _ _ st3 fun b _ o e => by rw [← hs4]; exact pushCells_keeps _ _ _ _ (Heap.get?_push_of_some _ e)
  have foot : ∀ {σ' : L2.St} {H' : Hp} {s' : Shared}, Inv (X.blk s3 H3 scope ce fp) [] σ' H' s' → (∀ b ∈ fp, H' b = none) → ∀ b ∈ fp, FpOk (X.blk s3 H3 scope ce fp) [] H' b := fun {σ' H' s'} I' hn b hb =>
    ⟨hn b hb, (I'.ok.exf b hb).1, I'.ok.exfs b hb, .inl hb, fun x c e => (I'.ok.exf b hb).2 x c e, fun p hp => absurd (show p ∈ ([] : List (Addr × Obj)) ++ [] from hp) (by simp)⟩
  have loop : codeAny (model X.prog X.w) X.A (.compLoop (.SetComp elt [⟨tg, iter, ifs, 0⟩] scope pos) 0 (.ref it) (.ref D) ce) (compPost (model X.prog X.w) X.A X.xe use Qf (.ref D) s3.heap.objs.size) s4 := by
    refine PpSet.compLoopS_any (fun n s' => ∃ i H', Inv (X.blk s3 H3 scope ce fp) [] (wipe σ (own.map (·.2))) H' s' ∧ tn i s'.heap ∧ (∀ b ∈ fp, H' b = none) ∧ W i n H') ?_ m0 ⟨0, H3, I4, st4, none3, w0⟩
    rintro n s5 ⟨i, H5, I5, st5, n5, w5⟩
    rcases turn i n H5 w5 with ⟨stop, qq⟩ | ⟨go, Nx, hNx, step⟩
    · refine thnF (T.done (X.blk s3 H3 scope ce fp) rfl rfl rfl hc i [] s5 _ H5 (fun _ _ => False) I5 (foot I5 n5) st5 stop) fun r s6 ⟨hr, I6⟩ => ?_
      subst hr
      have I7 : Inv X pins σ H5 s6 := I3.call' (ch := fp) I6.os I6.base I6.hok I6.bare fun b hb => ⟨(f3 b hb).1.2.2.2.1, (f3 b hb).1.2.1, (f3 b hb).1.2.2.2.2.1, (f3 b hb).1.2.2.2.2.2⟩
      have nC : H5 s3.heap.objs.size = none := cL ▸ (show H5 ce.locals = none from I6.free)
      obtain ⟨m, hn, _⟩ := I6.loc
      exact back D s3.heap.objs.size s6 m H5 I7 qq (cL ▸ (show s6.heap.Ns ce.locals m from hn)) (I3.fpOk (Nat.le_refl _) nC)
    · refine thnF (T.item (X.blk s3 H3 scope ce fp) rfl rfl rfl hc i [] s5 _ H5 (fun _ _ => False) I5 (foot I5 n5) st5 go) fun r s6 ⟨u, hr, h6⟩ => ?_
      subst hr
      refine thnF h6 fun _ s7 ⟨x, H7, I7, r7, y7, st7, n7⟩ => ?_
      have I8 := I7.pinned (foot I7 n7) (T.obj _ _ st7)
      refine thnF (pg.run _ s7 _ H7 x u _ I8 r7 (step x H7 y7)) fun _ s8 ⟨σ8, H8, I8, hw8, q8⟩ => ?_
      refine thnF (pt.run _ s8 σ8 H8 _ I8 q8) fun b s9 ⟨H9, I9, q9⟩ => ?_
      have turnEnd : ∀ {s' : Shared} {H' : Hp}, Inv (X.blk s3 H3 scope ce fp) ([] ++ pinsAt fp s7.heap) σ8 H' s' → Nx H' → ∃ m, m < n ∧ ∃ i H', Inv (X.blk s3 H3 scope ce fp) [] (wipe σ (own.map (·.2))) H' s' ∧ tn i s'.heap ∧ (∀ b ∈ fp, H' b = none) ∧ W i m H' := fun {s' H'} I' nx => by
        obtain ⟨m', hm, w'⟩ := hNx H' nx
        have pin : ∀ b ∈ fp, ∀ o, s7.heap.get? b = some o → s'.heap.get? b = some o ∧ H' b = none := fun b hb o e => by
          have z := I'.pin (b, o) (List.mem_append_right _ (List.mem_append_right _ (mem_pinsAt hb e)))
          exact ⟨z.1, z.2.1⟩
        refine ⟨m', hm, i + 1, H', (I'.unpinned (pins := [])).weak (by rw [← hw8, wipe_length]) (fun j v e => ?_), T.keep _ _ _ st7 fun b hb o e => (pin b hb o e).1, fun b hb => ?_, w'⟩
        · rw [← hw8] at e
          exact (wipe_some e).1
        · obtain ⟨o, e, _⟩ := T.obj _ _ st7 b hb
          exact (pin b hb o e).2
      cases b with
      | false =>
        simp only [Bool.false_eq_true, if_false] at q9 ⊢
        exact turnEnd I9 q9
      | true =>
        simp only [if_true] at q9 ⊢
        refine thnF (pe.run _ s9 σ8 H9 _ I9 q9) fun z s10 ⟨yv, H10, I10, r10, k, L, ey, hD10, room, nx⟩ => ?_
        subst ey
        exact add_in (X := X.blk s3 H3 scope ce fp) I10 r10 hD10 room fun s11 I11 => turnEnd I11 nx
  exact PpSet.codeAny_compStart_set loop (T.self X.A 0 _ _ _ st4 loop)
theorem pe_scM {elt tg iter : Expr} {ifs : List Expr} {scope : Scope} {own : List (PySem.Str × Nat)} {pos : Pos} {wi : TI} {g : TG} {tt : TT} {te : TE} (hc : X.calm = true) (hN : X.N.Nodup) (hi : PI X tg iter wi) (ok : BlkOk X.N X.env.scope scope own)
    (hg : ∀ (s : Shared) (H : Hp) (C : Addr) (cl : List (PySem.Str × Addr)) (fp : List Addr), PG (X.blk s H scope (compEnvC scope cl C X.env) fp) tg g) (ht : ∀ (s : Shared) (H : Hp) (C : Addr) (cl : List (PySem.Str × Addr)) (fp : List Addr), PTs (X.blk s H scope (compEnvC scope cl C X.env) fp) ifs tt)
    (he : ∀ (s : Shared) (H : Hp) (C : Addr) (cl : List (PySem.Str × Addr)) (fp : List Addr), PE (X.blk s H scope (compEnvC scope cl C X.env) fp) elt te) (hs : ∀ x, foldedSetIterable iter X.env x = pure x := by intro _; rfl) :
    PE X (.SetComp elt [⟨tg, iter, ifs, 0⟩] scope pos) (tScM X.prog X.w wi g tt te (own.map (·.2))) := by
  refine ⟨fun pins s σ H Q I h => ?_⟩
  rw [PpSet.eval_SetComp]
  refine scM_core hc hN I hi ok hg ht he hs h fun D C s' m H' I' q hn f => ⟨m, hn, fun h2 sb => ?_⟩
  obtain ⟨f0, f1, f2, f3, f4, f5⟩ := f
  exact ⟨.ref D, H', I'.turned (t' := s'.toks) (fun b o hb e => (sb.2 b hb).trans e) f0 f1 f3 f4 f5, rfl, q⟩
end
/-- over a list that stands still -/
theorem scM_list {P : Program} {w : World} {K : PySem.W.Frag} {a : Addr} {xs : List V} {g : TG} {tt : TT} {te : TE} {vs : List Nat} {σ : L2.St} {H1 : Hp} {D : Addr} {Qd : Hp → Prop} (Pv : Nat → Hp → Prop) (h0 : Pv 0 (upd H1 D (SetMO P w D []))) (hl : ∀ i H, i ≤ xs.length → Pv i H → SqL K H a xs)
    (hs : ∀ i x H, xs[i]? = some x → Pv i H → g x (wipe σ vs) H fun σ2 H2 => wipe σ2 vs = wipe σ vs ∧ tt σ2 H2 fun b H3 => if b = true then te σ2 H3 (PutM P w D (Pv (i + 1))) else Pv (i + 1) H3) (hd : ∀ H, Pv xs.length H → Qd H) :
    ∃ W : Nat → Nat → Hp → Prop, (∃ m, W 0 m (upd H1 D (SetMO P w D []))) ∧ ∀ i m H, W i m H →
      ((Itl K a).stop i H ∧ Qd H) ∨ ((Itl K a).go i H ∧ ∃ Nx : Hp → Prop, (∀ H', Nx H' → ∃ m', m' < m ∧ W (i + 1) m' H') ∧ ∀ x H', (Itl K a).yld i H x H' → g x (wipe σ vs) H' fun σ2 H2 => wipe σ2 vs = wipe σ vs ∧ tt σ2 H2 fun b H3 =>
        if b = true then te σ2 H3 (PutM P w D Nx) else Nx H3) := by
  refine ⟨fun i m H => m = xs.length - i ∧ i ≤ xs.length ∧ Pv i H, ⟨_, rfl, Nat.zero_le _, h0⟩, ?_⟩
  rintro i m H ⟨rfl, le, p⟩
  have q := hl i H le p
  by_cases lt : i < xs.length
  · refine .inr ⟨⟨xs, xs[i], q, by simp [lt]⟩, Pv (i + 1), fun H' p' => ⟨xs.length - (i + 1), by omega, rfl, lt, p'⟩, fun x H' y => ?_⟩
    obtain ⟨rfl, y⟩ := y
    exact hs i x _ (y xs q) p
  · obtain rfl : i = xs.length := by omega
    exact .inl ⟨⟨xs, q, Nat.le_refl _⟩, hd H p⟩
theorem scM_tup {P : Program} {w : World} {K : PySem.W.Frag} {a : Addr} {xs : List V} {g : TG} {tt : TT} {te : TE} {vs : List Nat} {σ : L2.St} {H1 : Hp} {D : Addr} {Qd : Hp → Prop} (Pv : Nat → Hp → Prop) (h0 : Pv 0 (upd H1 D (SetMO P w D []))) (hl : ∀ i H, i ≤ xs.length → Pv i H → SqT K H a xs)
    (hs : ∀ i x H, xs[i]? = some x → Pv i H → g x (wipe σ vs) H fun σ2 H2 => wipe σ2 vs = wipe σ vs ∧ tt σ2 H2 fun b H3 => if b = true then te σ2 H3 (PutM P w D (Pv (i + 1))) else Pv (i + 1) H3) (hd : ∀ H, Pv xs.length H → Qd H) :
    ∃ W : Nat → Nat → Hp → Prop, (∃ m, W 0 m (upd H1 D (SetMO P w D []))) ∧ ∀ i m H, W i m H →
      ((Itt K a).stop i H ∧ Qd H) ∨ ((Itt K a).go i H ∧ ∃ Nx : Hp → Prop, (∀ H', Nx H' → ∃ m', m' < m ∧ W (i + 1) m' H') ∧ ∀ x H', (Itt K a).yld i H x H' → g x (wipe σ vs) H' fun σ2 H2 => wipe σ2 vs = wipe σ vs ∧ tt σ2 H2 fun b H3 =>
        if b = true then te σ2 H3 (PutM P w D Nx) else Nx H3) := by
  refine ⟨fun i m H => m = xs.length - i ∧ i ≤ xs.length ∧ Pv i H, ⟨_, rfl, Nat.zero_le _, h0⟩, ?_⟩
  rintro i m H ⟨rfl, le, p⟩
  have q := hl i H le p
  by_cases lt : i < xs.length
  · refine .inr ⟨⟨xs, xs[i], q, by simp [lt]⟩, Pv (i + 1), fun H' p' => ⟨xs.length - (i + 1), by omega, rfl, lt, p'⟩, fun x H' y => ?_⟩
    obtain ⟨rfl, y⟩ := y
    exact hs i x _ (y xs q) p
  · obtain rfl : i = xs.length := by omega
    exact .inl ⟨⟨xs, q, Nat.le_refl _⟩, hd H p⟩
end PSG

set_option Elab.async false
set_option linter.all false
set_option maxRecDepth 100000
set_option maxHeartbeats 8000000
/-! either of two roads; any comprehension over what is walked; sorted sets of one kind -/
namespace PSG
open PySem PySem.Spec L2 PSS
theorem pi_or {X : Cx} {tg iter : Expr} {w1 w2 : TI} (h1 : PI X tg iter w1) (h2 : PI X tg iter w2) : PI X tg iter fun σ H R => w1 σ H R ∨ w2 σ H R :=
  ⟨fun pins s σ H R I h => h.elim (fun z => h1.run pins s σ H R I z) fun z => h2.run pins s σ H R I z⟩
theorem cr_or {X : Cx} {f : Value} {r r' : List V → Hp → VK → Prop} (h : CallR X f r) (h' : CallR X f r') : CallR X f fun xs H Q => r xs H Q ∨ r' xs H Q :=
  fun pins s σ H xs us Q I rx z => z.elim (fun z => h pins s σ H xs us Q I rx z) fun z => h' pins s σ H xs us Q I rx z
theorem pe_or2 {X : Cx} {e : Expr} {t t' : TE} (h : PE X e t) (h' : PE X e t') : PE X e fun σ H Q => t σ H Q ∨ t' σ H Q :=
  ⟨fun pins s σ H Q I z => z.elim (fun z => h.run pins s σ H Q I z) fun z => h'.run pins s σ H Q I z⟩
/-- what a comprehension's reading asks, by an invariant over the turns -/
theorem w_run {J : It} {B : (Hp → Prop) → V → Hp → Prop} {Qd : Hp → Prop} {H0 : Hp} (n : Nat) (Pv : Nat → Hp → Prop) (h0 : Pv 0 H0)
    (hs : ∀ i H, i ≤ n → Pv i H → (i = n ∧ J.stop i H) ∨ (i < n ∧ J.go i H ∧ ∀ x H', J.yld i H x H' → B (Pv (i + 1)) x H')) (hd : ∀ H, Pv n H → Qd H) :
    ∃ W : Nat → Nat → Hp → Prop, (∃ m, W 0 m H0) ∧ ∀ i m H, W i m H → (J.stop i H ∧ Qd H) ∨ (J.go i H ∧ ∃ Nx : Hp → Prop, (∀ H', Nx H' → ∃ m', m' < m ∧ W (i + 1) m' H') ∧ ∀ x H', J.yld i H x H' → B Nx x H') := by
  refine ⟨fun i m H => m = n - i ∧ i ≤ n ∧ Pv i H, ⟨_, rfl, Nat.zero_le _, h0⟩, ?_⟩
  rintro i m H ⟨rfl, le, p⟩
  rcases hs i H le p with ⟨rfl, st⟩ | ⟨lt, go, y⟩
  · exact .inl ⟨st, hd H p⟩
  · exact .inr ⟨go, Pv (i + 1), fun H' p' => ⟨n - (i + 1), by omega, rfl, lt, p'⟩, y⟩
theorem w_list {K : PySem.W.Frag} {a : Addr} {xs : List V} {B : (Hp → Prop) → V → Hp → Prop} {Qd : Hp → Prop} {H0 : Hp} (Pv : Nat → Hp → Prop) (h0 : Pv 0 H0) (hl : ∀ i H, i ≤ xs.length → Pv i H → SqL K H a xs)
    (hs : ∀ i x H, xs[i]? = some x → Pv i H → B (Pv (i + 1)) x H) (hd : ∀ H, Pv xs.length H → Qd H) :
    ∃ W : Nat → Nat → Hp → Prop, (∃ m, W 0 m H0) ∧ ∀ i m H, W i m H → ((Itl K a).stop i H ∧ Qd H) ∨ ((Itl K a).go i H ∧ ∃ Nx : Hp → Prop, (∀ H', Nx H' → ∃ m', m' < m ∧ W (i + 1) m' H') ∧ ∀ x H', (Itl K a).yld i H x H' → B Nx x H') := by
  refine w_run xs.length Pv h0 (fun i H le p => ?_) hd
  have q := hl i H le p
  by_cases lt : i < xs.length
  · refine .inr ⟨lt, ⟨xs, xs[i], q, by simp [lt]⟩, fun x H' y => ?_⟩
    obtain ⟨rfl, y⟩ := y
    exact hs i x _ (y xs q) p
  · exact .inl ⟨by omega, ⟨xs, q, by omega⟩⟩
theorem w_tup {K : PySem.W.Frag} {a : Addr} {xs : List V} {B : (Hp → Prop) → V → Hp → Prop} {Qd : Hp → Prop} {H0 : Hp} (Pv : Nat → Hp → Prop) (h0 : Pv 0 H0) (hl : ∀ i H, i ≤ xs.length → Pv i H → SqT K H a xs)
    (hs : ∀ i x H, xs[i]? = some x → Pv i H → B (Pv (i + 1)) x H) (hd : ∀ H, Pv xs.length H → Qd H) :
    ∃ W : Nat → Nat → Hp → Prop, (∃ m, W 0 m H0) ∧ ∀ i m H, W i m H → ((Itt K a).stop i H ∧ Qd H) ∨ ((Itt K a).go i H ∧ ∃ Nx : Hp → Prop, (∀ H', Nx H' → ∃ m', m' < m ∧ W (i + 1) m' H') ∧ ∀ x H', (Itt K a).yld i H x H' → B Nx x H') := by
  refine w_run xs.length Pv h0 (fun i H le p => ?_) hd
  have q := hl i H le p
  by_cases lt : i < xs.length
  · refine .inr ⟨lt, ⟨xs, xs[i], q, by simp [lt]⟩, fun x H' y => ?_⟩
    obtain ⟨rfl, y⟩ := y
    exact hs i x _ (y xs q) p
  · exact .inl ⟨by omega, ⟨xs, q, by omega⟩⟩
/-- enumerate(list): each turn brings a new tuple -/
theorem w_enum {K : PySem.W.Frag} {a : Addr} {xs : List V} {B : (Hp → Prop) → V → Hp → Prop} {Qd : Hp → Prop} {H0 : Hp} (Pv : Nat → Hp → Prop) (h0 : Pv 0 H0) (hl : ∀ i H, i ≤ xs.length → Pv i H → SqL K H a xs)
    (hs : ∀ i x H T, xs[i]? = some x → Pv i H → H T = none → B (Pv (i + 1)) (.ref T) (upd H T (.tup [.int (i : Nat), x]))) (hd : ∀ H, Pv xs.length H → Qd H) :
    ∃ W : Nat → Nat → Hp → Prop, (∃ m, W 0 m H0) ∧ ∀ i m H, W i m H → ((Ite K a).stop i H ∧ Qd H) ∨ ((Ite K a).go i H ∧ ∃ Nx : Hp → Prop, (∀ H', Nx H' → ∃ m', m' < m ∧ W (i + 1) m' H') ∧ ∀ x H', (Ite K a).yld i H x H' → B Nx x H') := by
  refine w_run xs.length Pv h0 (fun i H le p => ?_) hd
  have q := hl i H le p
  by_cases lt : i < xs.length
  · refine .inr ⟨lt, ⟨xs, xs[i], q, by simp [lt]⟩, fun x H' y => ?_⟩
    obtain ⟨T, v, rfl, hT, rfl, y⟩ := y
    exact hs i v H T (y xs q) p hT
  · exact .inl ⟨by omega, ⟨xs, q, by omega⟩⟩
theorem w_range {lo : Int} {n : Nat} {B : (Hp → Prop) → V → Hp → Prop} {Qd : Hp → Prop} {H0 : Hp} (Pv : Nat → Hp → Prop) (h0 : Pv 0 H0)
    (hs : ∀ i H, i < n → Pv i H → B (Pv (i + 1)) (.int (lo + i)) H) (hd : ∀ H, Pv n H → Qd H) :
    ∃ W : Nat → Nat → Hp → Prop, (∃ m, W 0 m H0) ∧ ∀ i m H, W i m H → ((Itr lo n).stop i H ∧ Qd H) ∨ ((Itr lo n).go i H ∧ ∃ Nx : Hp → Prop, (∀ H', Nx H' → ∃ m', m' < m ∧ W (i + 1) m' H') ∧ ∀ x H', (Itr lo n).yld i H x H' → B Nx x H') := by
  refine w_run n Pv h0 (fun i H le p => ?_) hd
  by_cases lt : i < n
  · refine .inr ⟨lt, lt, fun x H' y => ?_⟩
    obtain ⟨rfl, rfl⟩ := y
    exact hs i _ lt p
  · exact .inl ⟨by omega, Nat.le_of_not_lt lt⟩
/-! a list or a tuple that stands still, walked -/
theorem same_tup {K : PySem.W.Frag} {H G : Hp} {a : Addr} {xs : List V} (s : Same H G) (h : SqT K H a xs) : SqT K G a xs := by
  rcases h with (h | ⟨o, h⟩) | h
  · exact .inl (.inl (s _ _ h))
  · exact .inl (.inr ⟨o, s _ _ h⟩)
  · exact .inr h
structure Wk (J : It) (H : Hp) (xs : List V) : Prop where
  go : ∀ G, Same H G → ∀ i, i < xs.length → J.go i G
  yl : ∀ G, Same H G → ∀ i x G', J.yld i G x G' → G' = G ∧ xs[i]? = some x
  st : ∀ G, Same H G → J.stop xs.length G
theorem wk_list {K : PySem.W.Frag} {H : Hp} {a : Addr} {xs : List V} (h : SqL K H a xs) : Wk (Itl K a) H xs where
  go := fun G s i lt => ⟨xs, xs[i], s.seq h, by simp [lt]⟩
  yl := fun G s i x G' y => ⟨y.1, y.2 xs (s.seq h)⟩
  st := fun G s => ⟨xs, s.seq h, Nat.le_refl _⟩
theorem wk_tup {K : PySem.W.Frag} {H : Hp} {a : Addr} {xs : List V} (h : SqT K H a xs) : Wk (Itt K a) H xs where
  go := fun G s i lt => ⟨xs, xs[i], same_tup s h, by simp [lt]⟩
  yl := fun G s i x G' y => ⟨y.1, y.2 xs (same_tup s h)⟩
  st := fun G s => ⟨xs, same_tup s h, Nat.le_refl _⟩
theorem seq_or {K : PySem.W.Frag} {i0 : Nat} {σ : L2.St} {H : Hp} {a : Addr} {xs : List V} {R : It → Hp → Prop} (hσ : σ[i0]? = some (some (.ref a))) (hq : SqL K H a xs ∨ SqT K H a xs) (hR : ∀ J : It, Wk J H xs → R J H) :
    iList K (tVar i0) σ H R ∨ iTup K (tVar i0) σ H R :=
  hq.elim (fun z => .inl ⟨_, hσ, a, rfl, ⟨xs, z⟩, hR _ (wk_list z)⟩) fun z => .inr ⟨_, hσ, a, rfl, ⟨xs, z⟩, hR _ (wk_tup z)⟩
theorem w_wk {J : It} {H : Hp} {xs : List V} {B : (Hp → Prop) → V → Hp → Prop} {Qd : Hp → Prop} {H0 : Hp} (wk : Wk J H xs) (Pv : Nat → Hp → Prop) (h0 : Pv 0 H0) (hl : ∀ i G, i ≤ xs.length → Pv i G → Same H G)
    (hs : ∀ i x G, xs[i]? = some x → Pv i G → B (Pv (i + 1)) x G) (hd : ∀ G, Pv xs.length G → Qd G) :
    ∃ W : Nat → Nat → Hp → Prop, (∃ m, W 0 m H0) ∧ ∀ i m H, W i m H → (J.stop i H ∧ Qd H) ∨ (J.go i H ∧ ∃ Nx : Hp → Prop, (∀ H', Nx H' → ∃ m', m' < m ∧ W (i + 1) m' H') ∧ ∀ x H', J.yld i H x H' → B Nx x H') := by
  refine w_run xs.length Pv h0 (fun i G le p => ?_) hd
  have k := hl i G le p
  by_cases lt : i < xs.length
  · refine .inr ⟨lt, wk.go G k i lt, fun x H' y => ?_⟩
    obtain ⟨rfl, e⟩ := wk.yl G k i x H' y
    exact hs i x _ e p
  · obtain rfl : i = xs.length := by omega
    exact .inl ⟨rfl, wk.st G k⟩
theorem for_wk {J : It} {H : Hp} {xs : List V} {g : TG} {tb : TS} {D : Ends} {σ : L2.St} {H1 : Hp} (wk : Wk J H xs) (Pv : Nat → L2.St → Hp → Prop) (h0 : Pv 0 σ H1) (hl : ∀ i σ G, i ≤ xs.length → Pv i σ G → Same H G)
    (hs : ∀ i x σ G, xs[i]? = some x → Pv i σ G → g x σ G fun σ2 H2 => tb { D with nx := Pv (i + 1), ct := Pv (i + 1), bk := D.nx } σ2 H2) (hd : ∀ σ G, Pv xs.length σ G → D.nx σ G) :
    ∃ W : Nat → Nat → L2.St → Hp → Prop, (∃ m, W 0 m σ H1) ∧ ∀ i m σ H, W i m σ H →
      (J.stop i H ∧ D.nx σ H) ∨ (J.go i H ∧ ∃ N : L2.St → Hp → Prop, (∀ σ' H', N σ' H' → ∃ m', m' < m ∧ W (i + 1) m' σ' H') ∧ ∀ x H', J.yld i H x H' → g x σ H' fun σ2 H2 => tb { D with nx := N, ct := N, bk := D.nx } σ2 H2) := by
  refine ⟨fun i m σ G => m = xs.length - i ∧ i ≤ xs.length ∧ Pv i σ G, ⟨_, rfl, Nat.zero_le _, h0⟩, ?_⟩
  rintro i m σ G ⟨rfl, le, p⟩
  have k := hl i σ G le p
  by_cases lt : i < xs.length
  · refine .inr ⟨wk.go G k i lt, Pv (i + 1), fun σ' H' p' => ⟨xs.length - (i + 1), by omega, rfl, lt, p'⟩, fun x H' y => ?_⟩
    obtain ⟨rfl, e⟩ := wk.yl G k i x H' y
    exact hs i x σ _ e p
  · obtain rfl : i = xs.length := by omega
    exact .inl ⟨wk.st G k, hd σ G p⟩
/-! the order of keys of one kind -/
def ltK : Key → Key → Bool
  | .inl i, .inl j => decide (i < j)
  | .inr x, .inr y => decide (x.cps.toList < y.cps.toList)
  | _, _ => false
theorem ltK_irrefl (k : Key) : ltK k k = false := by
  cases k with
  | inl i => simp [ltK]
  | inr x => simp [ltK, List.lt_irrefl]
theorem ltK_asymm {a b : Key} (h : ltK a b = true) : ltK b a = false := by
  cases a <;> cases b <;> simp only [ltK, decide_eq_true_eq, decide_eq_false_iff_not, Bool.false_eq_true] at h ⊢
  · omega
  · exact List.lt_asymm h
/-- all of one kind -/
def OneK (L : List Key) : Prop := (∀ k ∈ L, isIK k) ∨ (∀ k ∈ L, isSK k)
theorem rising_lt : ∀ {p : Str} {ys : List Str}, PyProof.Rows.risingS p ys = true → (p :: ys).Nodup → ∀ y ∈ ys, p.cps.toList < y.cps.toList
  | _, [], _, _ => fun y hy => by cases hy
  | p, x :: r, h, nd => by
    simp only [PyProof.Rows.risingS, Bool.and_eq_true, Bool.not_eq_true'] at h
    obtain ⟨h1, h2⟩ := h
    obtain ⟨n1, n2⟩ := List.nodup_cons.mp nd
    have hx : p.cps.toList < x.cps.toList := by
      have le : ¬ x.cps.toList < p.cps.toList := by
        intro z
        rw [PyProof.Rows.ltCps_eq, decide_eq_true z] at h1
        cases h1
      refine Classical.byContradiction fun z => n1 ?_
      have e : p.cps.toList = x.cps.toList := List.le_antisymm (List.not_lt.mp le) (List.not_lt.mp z)
      have e2 : p = x := by
        obtain ⟨⟨a⟩⟩ := p
        obtain ⟨⟨b⟩⟩ := x
        cases e
        rfl
      rw [e2]
      exact List.mem_cons_self
    intro y hy
    rcases List.mem_cons.mp hy with rfl | hy
    · exact hx
    · exact List.lt_trans hx (rising_lt h2 n2 y hy)
theorem rising_pw : ∀ {p : Str} {ys : List Str}, PyProof.Rows.risingS p ys = true → (p :: ys).Nodup → (p :: ys).Pairwise fun a b => a.cps.toList < b.cps.toList
  | p, [], _, _ => by simp
  | p, x :: r, h, nd => by
    have h2 := h
    simp only [PyProof.Rows.risingS, Bool.and_eq_true] at h2
    exact List.pairwise_cons.mpr ⟨rising_lt h nd, rising_pw h2.2 (List.nodup_cons.mp nd).2⟩
theorem sortedS_pw {ys : List Str} (h : PyProof.Rows.sortedS ys = true) (nd : ys.Nodup) : ys.Pairwise fun a b => a.cps.toList < b.cps.toList := by
  cases ys with
  | nil => exact List.Pairwise.nil
  | cons p r => exact rising_pw h nd
/-- sorted(a set of one kind) -/
def rSortK (P : Program) (w : World) : List V → Hp → VK → Prop := fun vs H Q => ∃ (a : Addr) (L : List Key), vs = [.ref a] ∧ H a = some (SetMO P w a L) ∧ L.length < 64 ∧ OneK L ∧
  ∀ (zs : List Key) (p : Addr), zs.Pairwise (fun a b => ltK a b = true) → (∀ k, k ∈ zs ↔ k ∈ L) → zs.length = L.length → H p = none → Q (.ref p) (upd H p (.lst (zs.map kV)))
theorem cr_sortK {X : Cx} (hc : X.calm = true) : CallR X (.builtin "sorted") (rSortK X.prog X.w) := by
  intro pins s σ H xs us Q I r h
  obtain ⟨a, L, rfl, ha, few, one, q⟩ := h
  rcases one with one | one
  · refine cr_sortM hc pins s σ H _ us Q I r ⟨a, L, rfl, ha, few, one, fun ns p pw mem len hp => ?_⟩
    have z := q (ns.map Sum.inl) p (List.pairwise_map.mpr (pw.imp fun {a b} l => decide_eq_true l)) (fun k => ?_) (by rw [List.length_map, len]) hp
    · rw [List.map_map] at z
      exact z
    · cases k with
      | inl i => rw [mem_map_inl, mem]
      | inr x => exact ⟨fun m => by simp at m, fun m => by obtain ⟨i, e⟩ := one _ m; cases e⟩
  · refine cr_sortMS hc pins s σ H _ us Q I r ⟨a, L, rfl, ha, few, one, fun ns p st nd mem len hp => ?_⟩
    have z := q (ns.map Sum.inr) p (List.pairwise_map.mpr ((sortedS_pw st nd).imp fun {a b} l => decide_eq_true l)) (fun k => ?_) (by rw [List.length_map, len]) hp
    · rw [List.map_map] at z
      exact z
    · cases k with
      | inr i => rw [mem_map_inr, mem]
      | inl x => exact ⟨fun m => by simp at m, fun m => by obtain ⟨i, e⟩ := one _ m; cases e⟩
/-- what stands at place j of a rising list has j ones below it -/
theorem below_len : ∀ {zs : List Key} {j : Nat} {k : Key}, zs.Pairwise (fun a b => ltK a b = true) → zs[j]? = some k → (zs.filter fun x => ltK x k).length = j
  | [], j, k, _, h => by simp at h
  | z :: zs, 0, k, pw, h => by
    have e : z = k := by simpa using h
    subst e
    obtain ⟨h1, _⟩ := List.pairwise_cons.mp pw
    rw [List.filter_cons, ltK_irrefl]
    simp only [Bool.false_eq_true, if_false]
    rw [List.filter_eq_nil_iff.mpr fun x hx => by rw [ltK_asymm (h1 x hx)]; simp]
    rfl
  | z :: zs, j + 1, k, pw, h => by
    obtain ⟨h1, h2⟩ := List.pairwise_cons.mp pw
    have hk : zs[j]? = some k := by simpa using h
    rw [List.filter_cons, h1 k (List.mem_of_getElem? hk)]
    simp only [if_true, List.length_cons]
    rw [below_len h2 hk]
/-- the number of the different ones below -/
def rankK (ks : List Key) (k : Key) : Nat := (sof (ks.filter fun x => ltK x k)).length
theorem rank_at {ks zs : List Key} {j : Nat} {k : Key} (pw : zs.Pairwise fun a b => ltK a b = true) (mem : ∀ k, k ∈ zs ↔ k ∈ ks) (h : zs[j]? = some k) : rankK ks k = j := by
  rw [← below_len pw h]
  have nz : zs.Nodup := pw.imp fun {a b} l e => by rw [e, ltK_irrefl] at l; cases l
  refine (List.perm_ext_iff_of_nodup (nd_sof _) (nz.filter _)).mpr (fun x => ?_) |>.length_eq
  rw [mem_sof, List.mem_filter, List.mem_filter, mem]
end PSG

set_option Elab.async false
set_option linter.all false
set_option maxRecDepth 100000
set_option maxHeartbeats 8000000
/-! f(c = x, b = y, a = z): keywords alone, in another sequence than the parameters -/
namespace PSG
open PySem PySem.Spec L2
section
variable {X : Cx} {CT : CXT} {k : Nat} {f : Addr} {fd : FuncData} {ps ks : List Str} {sp : Sp} {E : L2.St → XK} {x : Str} {p pos : Pos} {kws : List Keyword} {t : TA}
def tCallG (sp : Sp) (gV : List V → List V) (E : L2.St → XK) (t : TA) : TE := fun σ H Q => t σ H fun vs H1 => sp (gV vs) H1 Q (E σ)
theorem pe_callR {g : List Value → List Value} {gV : List V → List V} (F : FnOk X.prog X.w X.K X.mg X.base CT k f fd ps sp) (room : Room k X.A) (hg : Gl X x) (hm : X.mg x = some (.ref f)) (keep : PySem.W.keepIn X.K (.ref f) = true)
    (bi : ∀ (s : Shared) (ws : List Value), X.K.In s.heap → (g ws).length = ps.length → BindsTo s fd ⟨[], ks.zip ws⟩ (ps.zip (g ws))) (rel : ∀ {vs : List V} {ws : List Value}, Vals vs ws → Vals (gV vs) (g ws)) (pass : ∀ σ, PassesAt CT X σ (E σ))
    (ha : PK X kws t) (hall : (backToKw pos (keywordEach kws X.env)).all (·.1.isSome) = true := by rfl) (hks : (backToKw pos (keywordEach kws X.env)).filterMap (·.1) = ks := by rfl)
    (nd : (x == ("__debug__" : Str)) = false := by decide) (sn : ((backTo pos (starEach [] X.env)).any (·.1) || (backToKw pos (keywordEach kws X.env)).any (·.1.isNone)) = false := by rfl) :
    PE X (.Call (.Name x p) [] kws pos) (tCallG sp gV E t) where
  run := fun pins s σ H Q I h => by
    refine wpAny_Call_Name_kw (ld_glob I hg hm ?_ nd)
    refine PySem.W.callWith_KW0 (h₀ := X.base) I.ok.mod.kin keep hall (thn (ha.run pos pins s σ H _ I h) fun ws s1 ⟨vs, H1, I1, r1, q1⟩ => ⟨I1.kIn, ?_⟩) sn
    rw [hks]
    show wpAny _ _ (call (.ref f) [] (ks.zip ws)) _ _ _
    have r2 := rel r1
    have lw : (g ws).length = ps.length := r2.length.symm.trans (F.len _ _ _ _ q1)
    refine wpAny_call (codeAny_mono (F.run X.A X.stack s1 H1 ⟨[], ks.zip ws⟩ (g ws) (gV vs) Q (E σ) room I1.env0 (bi s1 ws I1.kIn lw) r2 q1) fun r s' z => ?_)
    match r, z with
    | .error er, z => exact pass σ pins H1 s1 er s' I1 z
    | .ok (.ret u), z => exact I1.after z
end
theorem for_enum {K : PySem.W.Frag} {a : Addr} {xs : List V} {g : TG} {tb : TS} {D : Ends} {σ : L2.St} {H : Hp} (Pv : Nat → L2.St → Hp → Prop) (h0 : Pv 0 σ H) (hl : ∀ i σ H, Pv i σ H → SqL K H a xs)
    (hs : ∀ i x σ H T, xs[i]? = some x → Pv i σ H → H T = none → g (.ref T) σ (upd H T (.tup [.int (i : Nat), x])) fun σ2 H2 => tb { D with nx := Pv (i + 1), ct := Pv (i + 1), bk := D.nx } σ2 H2) (hd : ∀ σ H, Pv xs.length σ H → D.nx σ H) :
    ∃ W : Nat → Nat → L2.St → Hp → Prop, (∃ m, W 0 m σ H) ∧ ∀ i m σ H, W i m σ H →
      ((Ite K a).stop i H ∧ D.nx σ H) ∨ ((Ite K a).go i H ∧ ∃ N : L2.St → Hp → Prop, (∀ σ' H', N σ' H' → ∃ m', m' < m ∧ W (i + 1) m' σ' H') ∧ ∀ x H', (Ite K a).yld i H x H' → g x σ H' fun σ2 H2 => tb { D with nx := N, ct := N, bk := D.nx } σ2 H2) := by
  refine ⟨fun i m σ H => m = xs.length - i ∧ i ≤ xs.length ∧ Pv i σ H, ⟨xs.length, by simp, Nat.zero_le _, h0⟩, fun i m σ H hw => ?_⟩
  obtain ⟨hm, hi, p⟩ := hw
  have sq := hl i σ H p
  by_cases lt : i < xs.length
  · refine .inr ⟨⟨xs, xs[i], sq, List.getElem?_eq_getElem lt⟩, Pv (i + 1), fun σ' H' q => ⟨m - 1, by omega, by omega, by omega, q⟩, fun v H' y => ?_⟩
    obtain ⟨T, x, rfl, hT, rfl, at_⟩ := y
    exact hs i x σ H T (at_ xs sq) p hT
  · have e : i = xs.length := by omega
    refine .inl ⟨⟨xs, sq, by omega⟩, hd σ H ?_⟩
    rw [← e]
    exact p
theorem pass0At {X : Cx} : ∀ σ : L2.St, PassesAt CX0 X σ ((fun _ => E0) σ) := fun _ _ _ _ _ _ _ h => h.elim
/-- three, the other way round -/
def flip3 {α : Type} : List α → List α
  | [a, b, c] => [c, b, a]
  | _ => []
theorem flip3_rel {vs : List V} {ws : List Value} (r : Vals vs ws) : Vals (flip3 vs) (flip3 ws) := by
  match vs, ws, r with
  | [], [], .nil => exact .nil
  | [_], [_], _ => exact .nil
  | [_, _], [_, _], _ => exact .nil
  | [_, _, _], [_, _, _], .cons r1 (.cons r2 (.cons r3 .nil)) => exact .cons r3 (.cons r2 (.cons r1 .nil))
  | _ :: _ :: _ :: _ :: _, _ :: _ :: _ :: _ :: _, _ => exact .nil
end PSG

set_option Elab.async false
set_option linter.all false
set_option maxRecDepth 100000
set_option maxHeartbeats 8000000
namespace K15
open PySem PySem.Spec L2 PSG
open PyProof.Rows (IntsAre AllBare)
def topS (i : Nat) : Stmt := PySem.Challenge.pw_pairsigns_k15_whole_ranks_and_fitting_si.main.body.getD i (.Pass ⟨0, 0, 0, 0⟩)
abbrev s__law_rng : Stmt := topS 20
theorem sc__law_rng : FnScope ["_law_script", "_law_k", "_law_cell"] ["_law_script", "_law_k"] (defScope s__law_rng) := ⟨rfl, rfl, rfl, by decide +kernel, rfl, by decide +kernel, by decide +kernel⟩
abbrev s__law_draw : Stmt := topS 21
theorem sc__law_draw : FnScope ["_law_rng_here", "_law_many", "_law_digit", "_law_mixed"] ["_law_rng_here", "_law_many"] (defScope s__law_draw) := ⟨rfl, rfl, rfl, by decide +kernel, rfl, by decide +kernel, by decide +kernel⟩
abbrev s__law_choice : Stmt := topS 22
theorem sc__law_choice : FnScope ["_law_rng_here", "_law_options"] ["_law_rng_here", "_law_options"] (defScope s__law_choice) := ⟨rfl, rfl, rfl, by decide +kernel, rfl, by decide +kernel, by decide +kernel⟩

/-- the built-ins that the module leaves as they are -/
structure Blt (mg : Str → Option Value) : Prop where
  n_len : mg "len" = none
  n_max : mg "max" = none
  n_min : mg "min" = none
  n_abs : mg "abs" = none
  n_int : mg "int" = none
  n_divmod : mg "divmod" = none
  n_range : mg "range" = none
  n_isinstance : mg "isinstance" = none
  n_repr : mg "repr" = none
  n_all : mg "all" = none
  n_any : mg "any" = none
  n_bool : mg "bool" = none
  n_str : mg "str" = none
  n_set : mg "set" = none
  n_sorted : mg "sorted" = none
  n_enumerate : mg "enumerate" = none
  n_list : mg "list" = none
  n_tuple : mg "tuple" = none
  n_ValueError : mg "ValueError" = none
  n_RuntimeError : mg "RuntimeError" = none
section
variable {P : Program} {w : World} {K : PySem.W.Frag} {mg : Str → Option Value} {base : Heap}
def spRng (K : PySem.W.Frag) : Sp := fun vs H Q _ => ∃ (a : Addr) (ns : List Int) (k : Nat), vs = [.ref a, .int k] ∧ SqL K H a (ns.map V.int) ∧ k ≤ 1000 ∧ ∀ p x y, H p = none → (0 : Int) ≤ x → 0 ≤ y → y < 2147483587 → Q (.ref p) (upd H p (.lst [.int x, .int y]))
theorem ok_rng {f : Addr} {fd : FuncData} (F : Fun K "_law_rng" "_law_rng" s__law_rng f fd) (T : Blt mg) : FnOk P w K mg base CX0 1 f fd ["_law_script", "_law_k"] (spRng K) := by
  have sc := sc__law_rng
  refine F.ok sc (fun vs H Q E h => ?_) (fun cdv A outer s H vs Q E hr h => ?_)
  · obtain ⟨a, ns, k, rfl, _⟩ := h
    rfl
  · obtain ⟨a, ns, k, rfl, hS, hk, q⟩ := h
    refine ⟨_, (pss_cons (ps_set (i := 2) sc.nd rfl (.inl rfl) (pe_op op_add (pe_op op_mul pe_int (pv 1)) pe_int))
      (pss_cons (ps_if (pt_cmpR op_lt (pv 1) (pe_callB call_len_seq (by rfl) T.n_len PySem.boot_len (pa_cons (pv 0) pa_nil)) (nomark _)) (pss_one (ps_set (i := 2) sc.nd rfl (.inl rfl) (pe_ix ix_list (pv 0) (pv 1) (fun _ _ => rfl)))) pss_nil)
      (pss_one (ps_ret (pe_lst (pa_cons (pe_callB (call_max2 rfl) (by rfl) T.n_max (by decide +kernel) (pa_cons pe_int (pa_cons (pe_op op_sub (pe_callB call_abs (by rfl) T.n_abs (by decide +kernel) (pa_cons (pv 2) pa_nil)) (pe_op op_pow pe_int pe_int)) pa_nil))) (pa_cons (pe_op op_add (pe_op op_mod (pe_callTy call_int1 (by rfl) T.n_int (by decide +kernel) (pa_cons (pe_op op_mul (pe_op op_add (pe_op op_mod (pe_callTy call_int1 (by rfl) T.n_int (by decide +kernel) (pa_cons (pe_callB call_abs (by rfl) T.n_abs (by decide +kernel) (pa_cons (pv 2) pa_nil)) pa_nil)) pe_int) pe_int) (pe_op op_pow (pe_op op_add (pv 1) pe_int) pe_int)) pa_nil)) pe_int) pe_int) pa_nil))))))), ?_⟩
    refine ⟨_, rfl, _, _, rfl, rfl, .inl ⟨by decide, by decide⟩, _, _, rfl, rfl, ?_⟩
    refine ⟨_, rfl, _, rfl, a, _, rfl, .inl hS, _, _, rfl, rfl, _, rfl, ite2 (fun e => ?_) (fun e => ?_)⟩
    · have lt : k < (ns.map V.int).length := by
        have e1 := of_decide_eq_true e
        omega
      rw [List.length_map] at lt
      have at_ : (ns.map V.int)[k]? = some (.int ns[k]) := by
        rw [List.getElem?_map, List.getElem?_eq_getElem lt]
        rfl
      refine ⟨_, rfl, _, rfl, a, _, _, _, rfl, rfl, hS, atI_nat at_, ?_⟩
      refine ⟨_, rfl, _, rfl, _, _, rfl, rfl, ⟨by decide, by decide, by decide⟩, _, _, rfl, rfl, _, _, rfl, _, rfl, _, rfl, .inl ⟨_, rfl, _, _, rfl, rfl, (by show (0 : Int) < _; decide), _, _, rfl, rfl, _, rfl, _, _, rfl, rfl, _, _, rfl, rfl,
        ⟨by decide, by decide, by omega⟩, _, _, rfl, rfl, .inl ⟨by omega, by omega⟩, .inl ⟨_, rfl, _, _, rfl, rfl, (by show (0 : Int) < _; decide), _, _, rfl, rfl, (by show 2 ≤ sizeLine; decide), fun p hp => ?_⟩⟩⟩
      exact q p _ _ hp (by split <;> omega) (by omega) (by omega)
    · refine ⟨_, rfl, _, rfl, _, _, rfl, rfl, ⟨by decide, by decide, by decide⟩, _, _, rfl, rfl, _, _, rfl, _, rfl, _, rfl, .inl ⟨_, rfl, _, _, rfl, rfl, (by show (0 : Int) < _; decide), _, _, rfl, rfl, _, rfl, _, _, rfl, rfl, _, _, rfl, rfl,
        ⟨by decide, by decide, by omega⟩, _, _, rfl, rfl, .inl ⟨by omega, by omega⟩, .inl ⟨_, rfl, _, _, rfl, rfl, (by show (0 : Int) < _; decide), _, _, rfl, rfl, (by show 2 ≤ sizeLine; decide), fun p hp => ?_⟩⟩⟩
      exact q p _ _ hp (by split <;> omega) (by omega) (by omega)
theorem pylong_no {i j : Int} (h0 : 0 < j) (h : j < 2 ^ 200) : CDivP i j := by
  refine ⟨h0, ?_⟩
  have lg : j.natAbs.log2 < 200 := PySem.Flt.log2_lt_of (by decide) (by omega)
  unfold Builtin.divisionGoesByPylong
  have small : ¬ (300 < if (j == 0) = true then 0 else j.natAbs.log2 / 30 + 1) := by split <;> omega
  exact Bool.and_eq_false_iff.mpr (.inl (decide_eq_false small))
def nx (y : Int) : Int := (y * 48283 + 10007) % 2147483587
theorem nx_lo (y : Int) : 0 ≤ nx y := Int.emod_nonneg _ (by decide)
theorem nx_hi (y : Int) : nx y < 2147483587 := Int.emod_lt_of_pos _ (by decide)
/-- a draw below m -/
def spDraw : Sp := fun vs H Q _ => ∃ (r : Addr) (m : Int), vs = [.ref r, .int m] ∧ Rg H r ∧ 0 < m ∧ m < 2 ^ 200 ∧ ∀ d H', (0 : Int) ≤ d → d < m → Rg H' r → But r H H' → Q (.int d) H'
theorem ok_draw {f : Addr} {fd : FuncData} (F : Fun K "_law_draw" "_law_draw" s__law_draw f fd) (T : Blt mg) : FnOk P w K mg base CX0 1 f fd ["_law_rng_here", "_law_many"] spDraw := by
  have sc := sc__law_draw
  refine F.ok sc (fun vs H Q E h => ?_) (fun cdv A outer s H vs Q E hr h => ?_)
  · obtain ⟨r, m, rfl, _⟩ := h
    rfl
  · obtain ⟨r, m, rfl, ⟨x, y, hR, hx, hy, hy2⟩, hm, hm2, q⟩ := h
    have hS : SqL K H r [.int x, .int y] := SqL.of hR
    refine ⟨_, (pss_cons (ps_if (pt_cmpR op_gt (pe_ix ix_list (pv 0) pe_int (fun _ _ => rfl)) pe_int (nomark _)) (pss_cons (ps_asg (pe_callB call_divmodW (by rfl) T.n_divmod (by decide +kernel) (pa_cons (pe_ix ix_list (pv 0) pe_int (fun _ _ => rfl)) (pa_cons (pv 1) pa_nil))) (pg_tup (by rfl) (pgs_cons (pg_sub (pv 0) pe_int set_list) (pgs_cons (pg_name (i := 2) sc.nd rfl (.inl rfl)) pgs_nil))))
      (pss_one (ps_ret (pv 2)))) pss_nil)
      (pss_cons (ps_asg (pe_op op_mod (pe_callTy call_int1 (by rfl) T.n_int (by decide +kernel) (pa_cons (pe_op op_add (pe_op op_mul (pe_ix ix_list (pv 0) pe_int (fun _ _ => rfl)) pe_int) pe_int) pa_nil)) pe_int) (pg_sub (pv 0) pe_int set_list))
      (pss_cons (ps_set (i := 3) sc.nd rfl (.inl rfl) (pe_op op_fdiv (pe_op op_mod (pe_callTy call_int1 (by rfl) T.n_int (by decide +kernel) (pa_cons (pe_op op_mul (pe_ix ix_list (pv 0) pe_int (fun _ _ => rfl)) (pe_ix ix_list (pv 0) pe_int (fun _ _ => rfl))) pa_nil)) pe_int) pe_int))
      (pss_cons (ps_if (pt_cmpR op_lt (pv 1) (pe_op op_pow pe_int pe_int) (nomark _)) (pss_one (ps_ret (pe_op op_mod (pe_callTy call_int1 (by rfl) T.n_int (by decide +kernel) (pa_cons (pv 3) pa_nil)) (pv 1)))) pss_nil)
      (pss_one (ps_ret (pe_op op_mod (pe_callTy call_int1 (by rfl) T.n_int (by decide +kernel) (pa_cons (pe_op op_add (pe_op op_mul (pe_op op_add (pe_op op_mul (pv 3) pe_int) (pe_ix ix_list (pv 0) pe_int (fun _ _ => rfl))) pe_int) (pv 3)) pa_nil)) (pv 1)))))))), ?_⟩
    refine ⟨_, rfl, _, _, _, _, rfl, rfl, hS, atI_nat (j := 0) rfl, _, _, rfl, rfl, _, rfl, ite2 (fun e => ?_) (fun e => ?_)⟩
    · refine ⟨_, rfl, _, _, _, _, rfl, rfl, hS, atI_nat (j := 0) rfl, _, rfl, _, _, rfl, pylong_no hm hm2, fun p hp => ?_⟩
      have npr : r ≠ p := ne_of_none hR hp
      refine ⟨p, _, rfl, .inl (.inl upd_same), rfl, _, _, rfl, _, rfl, r, _, _, 0, rfl, rfl, (upd_ne npr).trans hR, rfl, _, _, rfl, rfl, ?_⟩
      refine ⟨_, rfl, q _ _ (Int.emod_nonneg _ (by omega)) (Int.emod_lt_of_pos _ hm) ⟨_, _, upd_same, Int.ediv_nonneg hx (by omega), hy, hy2⟩ ((But.of (same_new hp)).trans But.at)⟩
    · refine ⟨_, rfl, _, _, _, _, rfl, rfl, hS, atI_nat (j := 1) rfl, _, _, rfl, rfl, .inr ⟨by decide, by decide⟩, _, _, rfl, rfl, .inl ⟨_, rfl, _, _, rfl, rfl, (by show (0 : Int) < _; decide), _, rfl, r, _, _, 1, rfl, rfl, hR, rfl, ?_⟩⟩
      have hR1 : (upd H r (.lst [.int x, .int (nx y)])) r = some (.lst [.int x, .int (nx y)]) := upd_same
      have hS1 : SqL K (upd H r (.lst [.int x, .int (nx y)])) r [.int x, .int (nx y)] := SqL.of hR1
      have hz0 := nx_lo y
      have hz1 := nx_hi y
      refine ⟨_, rfl, _, _, _, _, rfl, rfl, hS1, atI_nat (j := 1) rfl, _, rfl, _, _, _, _, rfl, rfl, hS1, atI_nat (j := 1) rfl, _, _, rfl, rfl, .inl ⟨by omega, by omega⟩, .inl ⟨_, rfl, _, _, rfl, rfl, (by show (0 : Int) < _; decide), _, _, rfl, rfl, ⟨by decide, by decide⟩, ?_⟩⟩
      refine ⟨_, rfl, _, _, rfl, rfl, ⟨by decide, by decide, by decide⟩, _, _, rfl, rfl, _, rfl, ite2 (fun e => ?_) (fun e => ?_)⟩
      · refine ⟨_, rfl, .inl ⟨_, rfl, _, rfl, _, _, rfl, rfl, hm, ?_⟩⟩
        exact q _ _ (Int.emod_nonneg _ (by omega)) (Int.emod_lt_of_pos _ hm) ⟨_, _, hR1, hx, hz0, hz1⟩ But.at
      · refine ⟨_, rfl, _, _, rfl, rfl, .inr ⟨by decide, by decide⟩, _, rfl, _, _, _, _, rfl, rfl, hS1, atI_nat (j := 1) rfl, _, _, rfl, rfl, _, _, rfl, rfl, .inr ⟨by decide, by decide⟩, _, rfl, _, _, rfl, rfl, .inl ⟨_, rfl, _, rfl, _, _, rfl, rfl, hm, ?_⟩⟩
        exact q _ _ (Int.emod_nonneg _ (by omega)) (Int.emod_lt_of_pos _ hm) ⟨_, _, hR1, hx, hz0, hz1⟩ But.at
/-- one of a list's items -/
def spChoice (K : PySem.W.Frag) : Sp := fun vs H Q _ => ∃ (r o : Addr) (xs : List V), vs = [.ref r, .ref o] ∧ Rg H r ∧ H o = some (.lst xs) ∧ o ≠ r ∧ xs ≠ [] ∧ xs.length ≤ 1000 ∧ ∀ v H', v ∈ xs → Rg H' r → But r H H' → Q v H'
theorem ok_choice {f fD : Addr} {fd fdD : FuncData} (F : Fun K "_law_choice" "_law_choice" s__law_choice f fd) (T : Blt mg) (F__law_draw : Fun K "_law_draw" "_law_draw" s__law_draw fD fdD) (b__law_draw : Binds K fdD ["_law_rng_here", "_law_many"] [])
    (g__law_draw : mg "_law_draw" = some (.ref fD)) : FnOk P w K mg base CX0 2 f fd ["_law_rng_here", "_law_options"] (spChoice K) := by
  have sc := sc__law_choice
  have G__law_draw : FnOk P w K mg base CX0 1 fD fdD ["_law_rng_here", "_law_many"] spDraw := ok_draw F__law_draw T
  refine F.ok sc (fun vs H Q E h => ?_) (fun cdv A outer s H vs Q E hr h => ?_)
  · obtain ⟨r, o, xs, rfl, _⟩ := h
    rfl
  · obtain ⟨r, o, xs, rfl, hR, hO, hne, hx, hl, q⟩ := h
    have pos : 0 < xs.length := List.length_pos_iff.mpr hx
    refine ⟨_, (pss_one (ps_ret (pe_ix ix_list (pv 1) (pe_call G__law_draw hr (by rfl) g__law_draw F__law_draw.kp b__law_draw .nil pass0 (pa_cons (pv 0) (pa_cons (pe_callB call_len_seq (by rfl) T.n_len PySem.boot_len (pa_cons (pv 1) pa_nil)) pa_nil))) (fun _ _ => rfl)))), ?_⟩
    refine ⟨_, rfl, _, rfl, _, rfl, _, _, rfl, .inl (SqL.of hO), r, _, rfl, hR, by omega, by omega, fun d H' h0 h1 g' b' => ?_⟩
    have hO' := b' _ _ hne hO
    have lt : d.toNat < xs.length := by omega
    have e : atI xs ((d.toNat : Nat) : Int) = some xs[d.toNat] := atI_nat (List.getElem?_eq_getElem lt)
    rw [Int.toNat_of_nonneg h0] at e
    exact ⟨_, _, d, xs[d.toNat], rfl, rfl, SqL.of hO', e, q _ _ (List.getElem_mem lt) g' b'⟩
end
end K15

set_option Elab.async false
set_option linter.all false
set_option maxRecDepth 100000
set_option maxHeartbeats 8000000
namespace K15
open PySem PySem.Spec L2 PSG
open PyProof.Rows (IntsAre AllBare)
abbrev s_is_integer : Stmt := topS 3
theorem sc_is_integer : FnScope ["value"] ["value"] (defScope s_is_integer) := ⟨rfl, rfl, rfl, by decide +kernel, rfl, by decide +kernel, by decide +kernel⟩
abbrev s_is_letters : Stmt := topS 4
theorem sc_is_letters : FnScope ["value", "letter"] ["value"] (defScope s_is_letters) := ⟨rfl, rfl, rfl, by decide +kernel, rfl, by decide +kernel, by decide +kernel⟩
abbrev s_is_value : Stmt := topS 5
theorem sc_is_value : FnScope ["value"] ["value"] (defScope s_is_value) := ⟨rfl, rfl, rfl, by decide +kernel, rfl, by decide +kernel, by decide +kernel⟩
abbrev s_kind_of_value : Stmt := topS 6
theorem sc_kind_of_value : FnScope ["value"] ["value"] (defScope s_kind_of_value) := ⟨rfl, rfl, rfl, by decide +kernel, rfl, by decide +kernel, by decide +kernel⟩
abbrev s_sign_between : Stmt := topS 7
theorem sc_sign_between : FnScope ["one", "other"] ["one", "other"] (defScope s_sign_between) := ⟨rfl, rfl, rfl, by decide +kernel, rfl, by decide +kernel, by decide +kernel⟩
abbrev s_pair_sign : Stmt := topS 17
theorem sc_pair_sign : FnScope ["ranks", "first", "second"] ["ranks", "first", "second"] (defScope s_pair_sign) := ⟨rfl, rfl, rfl, by decide +kernel, rfl, by decide +kernel, by decide +kernel⟩
abbrev s_signs_fit : Stmt := topS 18
theorem sc_signs_fit : FnScope ["one", "other", "both"] ["one", "other", "both"] (defScope s_signs_fit) := ⟨rfl, rfl, rfl, by decide +kernel, rfl, by decide +kernel, by decide +kernel⟩
abbrev s__law_sign : Stmt := topS 29
theorem sc__law_sign : FnScope ["_law_a", "_law_b"] ["_law_a", "_law_b"] (defScope s__law_sign) := ⟨rfl, rfl, rfl, by decide +kernel, rfl, by decide +kernel, by decide +kernel⟩

def abc : Str := "abcdefghijklmnopqrstuvwxyz"
/-- the signs of a text that are letters -/
def lets (x : Str) : List Bool := x.cps.toList.map fun c => decide (c ∈ abc.cps.toList)
def allLet (x : Str) : Bool := (lets x).all id
/-- 0: none, 1: a number, 2: a text -/
def kd : PyData → Nat
  | .int _ => 1
  | .str x => if allLet x = true ∧ x.length ≤ 12 then 2 else 0
  | _ => 0
structure Cst (mg : Str → Option Value) : Prop where
  c_LETTERS : ∃ t, mg "LETTERS" = some (.str abc t)
  c_MOST_TEXT : ∃ t, mg "MOST_TEXT" = some (.int 12 t)
/-- .. a text itself is short -/
structure Thing (d : PyData) : Prop where
  nice : Fine d
  sm : ∀ x, d = .str x → x.length ≤ 100
def letD : PyData → Bool
  | .str x => allLet x
  | _ => false
section
variable {P : Program} {w : World} {K : PySem.W.Frag} {mg : Str → Option Value} {base : Heap}
def spAsk (f : PyData → Bool) : Sp := fun vs H Q _ => ∃ v d, vs = [v] ∧ Dt true H v d ∧ Thing d ∧ ∀ H', Same H H' → Q (.bl (f d)) H'
theorem ok_int {f : Addr} {fd : FuncData} (F : Fun K "is_integer" "is_integer" s_is_integer f fd) (T : Blt mg) : FnOk P w K mg base CX0 1 f fd ["value"] (spAsk fun d => isI d && !isB d) := by
  have sc := sc_is_integer
  refine F.ok sc (fun vs H Q E h => ?_) (fun cdv A outer s H vs Q E hr h => ?_)
  · obtain ⟨v, d, rfl, _⟩ := h
    rfl
  · obtain ⟨v, d, rfl, hd, nd, q⟩ := h
    refine ⟨_, (pss_one (ps_ret (pe_and (pe_callB call_isi (by rfl) T.n_isinstance (by decide +kernel) (pa_cons (pv 0) (pa_cons (pe_bltn (v := .ty "int") (by rfl) T.n_int (by decide +kernel) rfl) pa_nil))) (pe_one (pe_not (pe_callB call_isi (by rfl) T.n_isinstance (by decide +kernel) (pa_cons (pv 0) (pa_cons (pe_bltn (v := .ty "bool") (by rfl) T.n_bool (by decide +kernel) rfl) pa_nil)))))))), ?_⟩
    refine ⟨_, rfl, v, .ty "int", _, _, _, rfl, .ty _, Dt.ty hd, kit_int d, _, rfl, ite2 (fun e => ?_) (fun e => ?_)⟩
    · refine ⟨_, rfl, v, .ty "bool", _, _, _, rfl, .ty _, Dt.ty hd, kit_bool d, _, rfl, ?_⟩
      have q' := q H (Same.refl _)
      dsimp only at q'
      rw [e, Bool.true_and] at q'
      exact q'
    · have q' := q H (Same.refl _)
      dsimp only at q'
      rw [Bool.eq_false_iff.mpr e, Bool.false_and] at q'
      exact q'
theorem ok_lets {f : Addr} {fd : FuncData} (F : Fun K "is_letters" "is_letters" s_is_letters f fd) (T : Blt mg) (U : Cst mg) : FnOk P w K mg base CX0 1 f fd ["value"] (spAsk letD) := by
  have sc := sc_is_letters
  obtain ⟨tL, cL⟩ := U.c_LETTERS
  refine F.ok sc (fun vs H Q E h => ?_) (fun cdv A outer s H vs Q E hr h => ?_)
  · obtain ⟨v, d, rfl, _⟩ := h
    rfl
  · obtain ⟨v, d, rfl, hd, nd, q⟩ := h
    refine ⟨_, (pss_one (ps_ret (pe_and (pe_callB call_isi (by rfl) T.n_isinstance (by decide +kernel) (pa_cons (pv 0) (pa_cons (pe_bltn (v := .ty "str") (by rfl) T.n_str (by decide +kernel) rfl) pa_nil))) (pe_one (pe_callB (cr_all rfl) (by rfl) T.n_all (by decide +kernel) (pa_cons (pe_lc (own := [("letter", 1)]) (g := gName 1) (tt := tYes) (by rfl) sc.nd (pi_str (pv 0)) (blkOk_by (own := [("letter", 1)]) (N := ["value", "letter"]) (sc := defScope s_is_letters) (by decide +kernel)) (fun _ _ _ _ _ => pg_name (i := 1) sc.nd rfl (Or.inl rfl)) (fun _ _ _ _ _ => pts_nil) (fun _ _ _ _ _ => (pe_cmpR op_in_sign (pv 1) (pe_glob (v := .str abc) (by rfl) cL ⟨_, rfl⟩) (by rfl)))) pa_nil)))))), ?_⟩
    refine ⟨_, rfl, v, .ty "str", _, _, _, rfl, .ty _, Dt.ty hd, kit_str d, _, rfl, ite2 (fun e => ?_) (fun e => ?_)⟩
    · cases d with
      | str x =>
        cases hd
        have few := nd.sm x rfl
        have ll : (lets x).length = x.cps.size := by
          unfold lets
          rw [List.length_map, Array.length_toList]
        refine ⟨_, rfl, x, rfl, fun p hp => lc_str (fun j G => Same H G ∧ G p = some (.lst (((lets x).take j).map V.bl))) ⟨same_new hp, upd_same⟩ ?_ ?_⟩
        · rintro i c G hc ⟨sm, at_⟩
          refine ⟨rfl, ?_⟩
          refine ⟨_, rfl, c, abc, rfl, rfl, _, at_, ?_, fun b o z => (upd_ne (ne_of_none z hp)).trans (sm _ _ z), ?_⟩
          · rw [List.length_map, List.length_take, ll]
            have e3 : x.cps.size ≤ 100 := few
            rw [sizeLine_eq]
            omega
          · have e2 : (lets x)[i]? = some (decide (c ∈ abc.cps.toList)) := by
              unfold lets
              rw [List.getElem?_map, Array.getElem?_toList, hc]
              rfl
            rw [upd_same, List.take_add_one, e2, List.map_append]
            rfl
        · rintro G ⟨sm, at_⟩
          rw [← ll, List.take_length] at at_
          exact ⟨p, lets x, rfl, SqL.of at_, q G sm⟩
      | _ => exact Bool.noConfusion e
    · have q' := q H (Same.refl _)
      cases d <;> first | exact q' | exact absurd rfl e
end
end K15

set_option Elab.async false
set_option linter.all false
set_option maxRecDepth 100000
set_option maxHeartbeats 8000000
namespace K15
open PySem PySem.Spec L2 PSG
open PyProof.Rows (IntsAre AllBare)

theorem op_or {X : Cx} {o : Value → Value → Sem Value} {r r' : R2} (h : OpR X o r) (h' : OpR X o r') : OpR X o fun x y H Q => r x y H Q ∨ r' x y H Q := by
  intro pins s σ H x y v u Q I rx ry hh
  rcases hh with hh | hh
  · exact h pins s σ H x y v u Q I rx ry hh
  · exact h' pins s σ H x y v u Q I rx ry hh
section
variable {P : Program} {w : World} {K : PySem.W.Frag} {mg : Str → Option Value} {base : Heap}
def valD (d : PyData) : Bool := kd d != 0
theorem kd_yes {x : Str} (z : allLet x = true ∧ x.length ≤ 12) : kd (.str x) = 2 := if_pos z
theorem kd_no {x : Str} (z : ¬ (allLet x = true ∧ x.length ≤ 12)) : kd (.str x) = 0 := if_neg z
theorem kd_int {d : PyData} (h : (isI d && !isB d) = true) : ∃ i, d = .int i := by
  cases d with
  | int i => exact ⟨i, rfl⟩
  | _ => first | exact Bool.noConfusion h | (simp [isI, isB] at h)
def lenD : PyData → Nat
  | .str x => x.length
  | _ => 0
theorem kd_not_int {d : PyData} (h : ¬ (isI d && !isB d) = true) : valD d = (letD d && decide (lenD d ≤ 12)) := by
  cases d with
  | int i => exact absurd rfl h
  | str x =>
    show (kd (.str x) != 0) = (allLet x && decide (x.length ≤ 12))
    by_cases h1 : allLet x = true
    · by_cases h2 : x.length ≤ 12
      · rw [kd_yes ⟨h1, h2⟩, h1, decide_eq_true h2]
        rfl
      · rw [kd_no (fun z => h2 z.2), decide_eq_false h2, Bool.and_false]
        rfl
    · rw [kd_no (fun z => h1 z.1), Bool.eq_false_iff.mpr h1, Bool.false_and]
      rfl
  | none => rfl
  | bool b => rfl
  | list _ => rfl
  | tuple _ => rfl
  | dict _ => rfl
theorem let_str {d : PyData} (h : letD d = true) : ∃ x, d = .str x ∧ allLet x = true := by
  cases d with
  | str x => exact ⟨x, rfl, h⟩
  | _ => exact Bool.noConfusion h
theorem ok_value {f f1 f2 : Addr} {fd d1 d2 : FuncData} (F : Fun K "is_value" "is_value" s_is_value f fd) (T : Blt mg) (U : Cst mg) (F_is_integer : Fun K "is_integer" "is_integer" s_is_integer f1 d1) (b_is_integer : Binds K d1 ["value"] []) (g_is_integer : mg "is_integer" = some (.ref f1))
    (F_is_letters : Fun K "is_letters" "is_letters" s_is_letters f2 d2) (b_is_letters : Binds K d2 ["value"] []) (g_is_letters : mg "is_letters" = some (.ref f2)) : FnOk P w K mg base CX0 2 f fd ["value"] (spAsk valD) := by
  have sc := sc_is_value
  obtain ⟨tM, cM⟩ := U.c_MOST_TEXT
  have G_is_integer : FnOk P w K mg base CX0 1 f1 d1 ["value"] _ := ok_int F_is_integer T
  have G_is_letters : FnOk P w K mg base CX0 1 f2 d2 ["value"] _ := ok_lets F_is_letters T U
  refine F.ok sc (fun vs H Q E h => ?_) (fun cdv A outer s H vs Q E hr h => ?_)
  · obtain ⟨v, d, rfl, _⟩ := h
    rfl
  · obtain ⟨v, d, rfl, hd, nd, q⟩ := h
    refine ⟨_, (pss_one (ps_ret (pe_or (pe_call G_is_integer (hr.mono (by decide)) (by rfl) g_is_integer F_is_integer.kp b_is_integer .nil pass0 (pa_cons (pv 0) pa_nil)) (pe_one (pe_and (pe_call G_is_letters (hr.mono (by decide)) (by rfl) g_is_letters F_is_letters.kp b_is_letters .nil pass0 (pa_cons (pv 0) pa_nil)) (pe_one (pe_cmpR op_le (pe_callB call_len_str (by rfl) T.n_len PySem.boot_len (pa_cons (pv 0) pa_nil)) (pe_glob (v := .int 12) (by rfl) cM ⟨_, rfl⟩) (nomark _)))))))), ?_⟩
    refine ⟨_, rfl, v, d, rfl, hd, nd, fun H1 s1 => ⟨_, rfl, ite2 (fun e => ?_) (fun e => ?_)⟩⟩
    · obtain ⟨i, rfl⟩ := kd_int e
      exact q H1 s1
    · refine ⟨_, rfl, v, d, rfl, hd.same s1, nd, fun H2 s2 => ⟨_, rfl, ite2 (fun e2 => ?_) (fun e2 => ?_)⟩⟩
      · obtain ⟨x, rfl, al⟩ := let_str e2
        cases hd
        have few := nd.sm x rfl
        refine ⟨_, rfl, x, rfl, by rw [sizeLine_eq]; omega, _, _, rfl, rfl, ?_⟩
        have q' := q H2 (s1.trans s2)
        rw [kd_not_int e] at q'
        have e3 : (letD (.str x) && decide (lenD (.str x) ≤ 12)) = decide ((x.length : Int) ≤ 12) := by
          rw [e2, Bool.true_and]
          exact decide_eq_decide.mpr ⟨fun z => by have z' : x.length ≤ 12 := z; omega, fun z => by show x.length ≤ 12; omega⟩
        rw [e3] at q'
        exact q'
      · have q' := q H2 (s1.trans s2)
        rw [kd_not_int e, Bool.eq_false_iff.mpr e2, Bool.false_and] at q'
        exact q'
def kindT (d : PyData) : Str := if isS d = true then "text" else "number"
def spKindOf : Sp := fun vs H Q _ => ∃ v d, vs = [v] ∧ Dt true H v d ∧ Q (.str (kindT d)) H
theorem ok_kind_of {f : Addr} {fd : FuncData} (F : Fun K "kind_of_value" "kind_of_value" s_kind_of_value f fd) (T : Blt mg) : FnOk P w K mg base CX0 1 f fd ["value"] spKindOf := by
  have sc := sc_kind_of_value
  refine F.ok sc (fun vs H Q E h => ?_) (fun cdv A outer s H vs Q E hr h => ?_)
  · obtain ⟨v, d, rfl, _⟩ := h
    rfl
  · obtain ⟨v, d, rfl, hd, q⟩ := h
    refine ⟨_, (pss_one (ps_ret (pe_ifExp (pt_val (pe_callB call_isi (by rfl) T.n_isinstance (by decide +kernel) (pa_cons (pv 0) (pa_cons (pe_bltn (v := .ty "str") (by rfl) T.n_str (by decide +kernel) rfl) pa_nil)))) pe_str pe_str))), ?_⟩
    refine ⟨_, rfl, v, .ty "str", _, _, _, rfl, .ty _, Dt.ty hd, kit_str d, _, rfl, ite2 (fun e => ?_) (fun e => ?_)⟩
    · unfold kindT at q
      rw [if_pos e] at q
      exact q
    · unfold kindT at q
      rw [if_neg e] at q
      exact q
/-- the sign of two values of one kind -/
def sgn : PyData → PyData → Int
  | .int i, .int j => if i < j then -1 else if j < i then 1 else 0
  | .str x, .str y => if x.cps.toList < y.cps.toList then -1 else if y.cps.toList < x.cps.toList then 1 else 0
  | _, _ => 0
theorem same_kind {d e : PyData} (h : kd d ≠ 0) (h2 : kd d = kd e) : (∃ i j, d = .int i ∧ e = .int j) ∨ ∃ x y, d = .str x ∧ e = .str y ∧ allLet x = true ∧ allLet y = true ∧ x.length ≤ 12 ∧ y.length ≤ 12 := by
  have str : ∀ {x : Str}, kd (.str x) ≠ 0 → allLet x = true ∧ x.length ≤ 12 := fun {x} z => by
    refine Classical.byContradiction fun n => z ?_
    exact kd_no n
  cases d with
  | int i => cases e with
    | int j => exact .inl ⟨i, j, rfl, rfl⟩
    | str y =>
      have z := str (x := y) (fun z => by rw [← h2] at z; exact h z)
      rw [kd_yes z] at h2
      cases h2
    | _ => cases h2
  | str x =>
    have z := str h
    cases e with
    | int j =>
      rw [kd_yes z] at h2
      cases h2
    | str y =>
      have z2 := str (x := y) (fun z => by rw [← h2] at z; exact h z)
      exact .inr ⟨x, y, rfl, rfl, z.1, z2.1, z.2, z2.2⟩
    | _ => exact absurd h2 h
  | _ => exact absurd rfl h
def spBetween : Sp := fun vs H Q _ => ∃ v u d e, vs = [v, u] ∧ Dt true H v d ∧ Dt true H u e ∧ kd d ≠ 0 ∧ kd d = kd e ∧ Q (.int (sgn d e)) H
theorem ok_between {f : Addr} {fd : FuncData} (F : Fun K "sign_between" "sign_between" s_sign_between f fd) : FnOk P w K mg base CX0 1 f fd ["one", "other"] spBetween := by
  have sc := sc_sign_between
  refine F.ok sc (fun vs H Q E h => ?_) (fun cdv A outer s H vs Q E hr h => ?_)
  · obtain ⟨v, u, d, e, rfl, _⟩ := h
    rfl
  · obtain ⟨v, u, d, e, rfl, hd, he, h1, h2, q⟩ := h
    refine ⟨_, (pss_cons (ps_if (pt_cmpR (op_or op_lt op_lt_str) (pv 0) (pv 1) (nomark _)) (pss_one (ps_ret (pe_un un_neg pe_int))) pss_nil)
      (pss_one (ps_ret (pe_ifExp (pt_cmpR (op_or op_gt op_gt_str) (pv 0) (pv 1) (nomark _)) pe_int pe_int)))), ?_⟩
    rcases same_kind h1 h2 with ⟨i, j, rfl, rfl⟩ | ⟨x, y, rfl, rfl, _⟩
    · cases hd
      cases he
      refine ⟨_, rfl, _, rfl, .inl ⟨i, j, rfl, rfl, _, rfl, ite2 (fun e => ?_) (fun e => ?_)⟩⟩
      · refine ⟨_, rfl, ?_⟩
        have q' : Q (.int (if i < j then -1 else if j < i then 1 else 0)) H := q
        rw [if_pos (of_decide_eq_true e)] at q'
        exact q'
      · refine ⟨_, rfl, _, rfl, .inl ⟨i, j, rfl, rfl, _, rfl, ite2 (fun e3 => ?_) (fun e3 => ?_)⟩⟩
        all_goals
          have q' : Q (.int (if i < j then -1 else if j < i then 1 else 0)) H := q
          rw [if_neg (fun z => e (decide_eq_true z))] at q'
        · rw [if_pos (of_decide_eq_true e3)] at q'
          exact q'
        · rw [if_neg (fun z => e3 (decide_eq_true z))] at q'
          exact q'
    · cases hd
      cases he
      refine ⟨_, rfl, _, rfl, .inr ⟨x, y, rfl, rfl, _, rfl, ite2 (fun e => ?_) (fun e => ?_)⟩⟩
      · refine ⟨_, rfl, ?_⟩
        have q' : Q (.int (if x.cps.toList < y.cps.toList then -1 else if y.cps.toList < x.cps.toList then 1 else 0)) H := q
        rw [if_pos (of_decide_eq_true e)] at q'
        exact q'
      · refine ⟨_, rfl, _, rfl, .inr ⟨x, y, rfl, rfl, _, rfl, ite2 (fun e3 => ?_) (fun e3 => ?_)⟩⟩
        all_goals
          have q' : Q (.int (if x.cps.toList < y.cps.toList then -1 else if y.cps.toList < x.cps.toList then 1 else 0)) H := q
          rw [if_neg (fun z => e (decide_eq_true z))] at q'
        · rw [if_pos (of_decide_eq_true e3)] at q'
          exact q'
        · rw [if_neg (fun z => e3 (decide_eq_true z))] at q'
          exact q'
end
end K15

set_option Elab.async false
set_option linter.all false
set_option maxRecDepth 100000
set_option maxHeartbeats 8000000
namespace K15
open PySem PySem.Spec L2 PSG
open PyProof.Rows (IntsAre AllBare)

section
variable {P : Program} {w : World} {K : PySem.W.Frag} {mg : Str → Option Value} {base : Heap}
/-- three signs fit -/
def fits (a b c : Int) : Bool := if a = 0 then decide (c = b) else if b = 0 ∨ b = a then decide (c = a) else true
def spFit : Sp := fun vs H Q _ => ∃ a b c : Int, vs = [.int a, .int b, .int c] ∧ ∀ H', Same H H' → Q (.bl (fits a b c)) H'
theorem ok_fit {f : Addr} {fd : FuncData} (F : Fun K "signs_fit" "signs_fit" s_signs_fit f fd) : FnOk P w K mg base CX0 1 f fd ["one", "other", "both"] spFit := by
  have sc := sc_signs_fit
  refine F.ok sc (fun vs H Q E h => ?_) (fun cdv A outer s H vs Q E hr h => ?_)
  · obtain ⟨a, b, c, rfl, _⟩ := h
    rfl
  · obtain ⟨a, b, c, rfl, q⟩ := h
    refine ⟨_, (pss_cons (ps_if (pt_cmpR op_eq (pv 0) pe_int (nomark _)) (pss_one (ps_ret (pe_cmpR op_eq (pv 2) (pv 1) (nomark _)))) pss_nil)
      (pss_cons (ps_if (pt_cmpR op_in_seq (pv 1) (pe_tup (pa_cons pe_int (pa_cons (pv 0) pa_nil))) (by first | exact nomark _ | rfl)) (pss_one (ps_ret (pe_cmpR op_eq (pv 2) (pv 0) (nomark _)))) pss_nil)
      (pss_one (ps_ret pe_bl)))), ?_⟩
    have dec : ∀ i j : Int, decide (V.int i = V.int j) = decide (i = j) := fun i j => decide_eq_decide.mpr ⟨fun z => V.int.inj z, fun z => congrArg V.int z⟩
    refine ⟨_, rfl, rfl, _, rfl, ite2 (fun e => ?_) (fun e => ?_)⟩
    · rw [dec] at e
      have e := of_decide_eq_true e
      have q' := q H (Same.refl _)
      unfold fits at q'
      rw [if_pos e] at q'
      refine ⟨_, rfl, _, rfl, rfl, ?_⟩
      rw [dec]
      exact q'
    · rw [dec] at e
      have e : ¬ a = 0 := fun z => e (decide_eq_true z)
      refine ⟨_, rfl, _, rfl, (by show 2 ≤ sizeLine; decide), fun p hp => ?_⟩
      have sp := same_new (o := .tup [.int 0, .int a]) hp
      have ein : inV (.int b) [.int 0, .int a] = decide (b = 0 ∨ b = a) := by
        show ((0 == b) || ((a == b) || false)) = _
        rw [Bool.eq_iff_iff]
        simp only [Bool.or_eq_true, beq_iff_eq, Bool.false_eq_true, or_false, decide_eq_true_eq]
        exact or_congr eq_comm eq_comm
      have q' := q _ sp
      unfold fits at q'
      rw [if_neg e] at q'
      refine ⟨p, [.int 0, .int a], rfl, .inr (SqT.of upd_same), rfl, rfl, _, rfl, ite2 (fun e2 => ?_) (fun e2 => ?_)⟩
      · rw [if_neg Bool.false_ne_true, ein] at e2
        rw [if_pos (of_decide_eq_true e2)] at q'
        refine ⟨_, rfl, _, rfl, rfl, ?_⟩
        rw [dec]
        exact q'
      · rw [if_neg Bool.false_ne_true, ein] at e2
        rw [if_neg (fun z => e2 (decide_eq_true z))] at q'
        exact q'
/-- the sign of two ranks -/
def spPairSign : Sp := fun vs H Q _ => ∃ (a : Addr) (ns : List Int) (i j : Nat) (x y : Int), vs = [.ref a, .int i, .int j] ∧ H a = some (.tup (ns.map V.int)) ∧ ns[i]? = some x ∧ ns[j]? = some y ∧ Q (.int (sgn (.int x) (.int y))) H
theorem ok_pair_sign {f f1 : Addr} {fd d1 : FuncData} (F : Fun K "pair_sign" "pair_sign" s_pair_sign f fd) (F_sign_between : Fun K "sign_between" "sign_between" s_sign_between f1 d1) (b_sign_between : Binds K d1 ["one", "other"] []) (g_sign_between : mg "sign_between" = some (.ref f1)) :
    FnOk P w K mg base CX0 2 f fd ["ranks", "first", "second"] spPairSign := by
  have sc := sc_pair_sign
  have G_sign_between : FnOk P w K mg base CX0 1 f1 d1 _ spBetween := ok_between F_sign_between
  refine F.ok sc (fun vs H Q E h => ?_) (fun cdv A outer s H vs Q E hr h => ?_)
  · obtain ⟨a, ns, i, j, x, y, rfl, _⟩ := h
    rfl
  · obtain ⟨a, ns, i, j, x, y, rfl, ha, hi, hj, q⟩ := h
    refine ⟨_, (pss_one (ps_ret (pe_call G_sign_between (hr.mono (by decide)) (by rfl) g_sign_between F_sign_between.kp b_sign_between .nil pass0 (pa_cons (pe_ix ix_tup (pv 0) (pv 1) (fun _ _ => rfl)) (pa_cons (pe_ix ix_tup (pv 0) (pv 2) (fun _ _ => rfl)) pa_nil))))), ?_⟩
    have e1 : (ns.map V.int)[i]? = some (.int x) := by rw [List.getElem?_map, hi]; rfl
    have e2 : (ns.map V.int)[j]? = some (.int y) := by rw [List.getElem?_map, hj]; rfl
    refine ⟨_, rfl, _, rfl, a, _, i, _, rfl, rfl, SqT.of ha, atI_nat e1, _, rfl, _, rfl, a, _, j, _, rfl, rfl, SqT.of ha, atI_nat e2, ?_⟩
    exact ⟨_, _, _, _, rfl, .int x, .int y, (fun z => nomatch (z : (1 : Nat) = 0)), rfl, q⟩
end
end K15

set_option Elab.async false
set_option linter.all false
set_option maxRecDepth 100000
set_option maxHeartbeats 8000000
namespace K15
open PySem PySem.Spec L2 PSG
open PyProof.Rows (IntsAre AllBare)
abbrev s__law_kind : Stmt := topS 26
theorem sc__law_kind : FnScope ["_law_thing", "_law_letter"] ["_law_thing"] (defScope s__law_kind) := ⟨rfl, rfl, rfl, by decide +kernel, rfl, by decide +kernel, by decide +kernel⟩
abbrev s__law_number : Stmt := topS 23
theorem sc__law_number : FnScope ["_law_rng_here", "_law_size"] ["_law_rng_here"] (defScope s__law_number) := ⟨rfl, rfl, rfl, by decide +kernel, rfl, by decide +kernel, by decide +kernel⟩
abbrev s__law_text : Stmt := topS 24
theorem sc__law_text : FnScope ["_law_rng_here", "_law_k"] ["_law_rng_here"] (defScope s__law_text) := ⟨rfl, rfl, rfl, by decide +kernel, rfl, by decide +kernel, by decide +kernel⟩

def kindV (d : PyData) : V := if kd d = 1 then .str "number" else if kd d = 2 then .str "text" else .non
section
variable {P : Program} {w : World} {K : PySem.W.Frag} {mg : Str → Option Value} {base : Heap}
def spKind : Sp := fun vs H Q _ => ∃ v d, vs = [v] ∧ Dt true H v d ∧ Thing d ∧ ∀ H', Same H H' → Q (kindV d) H'
theorem ok_kind {f : Addr} {fd : FuncData} (F : Fun K "_law_kind" "_law_kind" s__law_kind f fd) (T : Blt mg) : FnOk P w K mg base CX0 1 f fd ["_law_thing"] spKind := by
  have sc := sc__law_kind
  refine F.ok sc (fun vs H Q E h => ?_) (fun cdv A outer s H vs Q E hr h => ?_)
  · obtain ⟨v, d, rfl, _⟩ := h
    rfl
  · obtain ⟨v, d, rfl, hd, nd, q⟩ := h
    refine ⟨_, (pss_cons (ps_if (PW.pt (pw_and (pt_val (pe_callB call_isi (by rfl) T.n_isinstance (by decide +kernel) (pa_cons (pv 0) (pa_cons (pe_bltn (v := .ty "int") (by rfl) T.n_int (by decide +kernel) rfl) pa_nil)))) (pw_and1 (pt_not (pt_val (pe_callB call_isi (by rfl) T.n_isinstance (by decide +kernel) (pa_cons (pv 0) (pa_cons (pe_bltn (v := .ty "bool") (by rfl) T.n_bool (by decide +kernel) rfl) pa_nil)))))))) (pss_one (ps_ret pe_str)) pss_nil)
      (pss_cons (ps_if (PW.pt (pw_or (pt_not (pt_val (pe_callB call_isi (by rfl) T.n_isinstance (by decide +kernel) (pa_cons (pv 0) (pa_cons (pe_bltn (v := .ty "str") (by rfl) T.n_str (by decide +kernel) rfl) pa_nil))))) (pw_or1 (pt_cmpR op_gt (pe_callB call_len_str (by rfl) T.n_len PySem.boot_len (pa_cons (pv 0) pa_nil)) pe_int (nomark _))))) (pss_one (ps_ret pe_non)) pss_nil)
      (pss_one (ps_ret (pe_ifExp (pt_val (pe_callB (cr_all rfl) (by rfl) T.n_all (by decide +kernel) (pa_cons (pe_lc (own := [("_law_letter", 1)]) (g := gName 1) (tt := tYes) (by rfl) sc.nd (pi_str (pv 0)) (blkOk_by (own := [("_law_letter", 1)]) (N := ["_law_thing", "_law_letter"]) (sc := defScope s__law_kind) (by decide +kernel)) (fun _ _ _ _ _ => pg_name (i := 1) sc.nd rfl (Or.inl rfl)) (fun _ _ _ _ _ => pts_nil) (fun _ _ _ _ _ => (pe_cmpR op_in_sign (pv 1) pe_str (by rfl)))) pa_nil))) pe_str pe_non))))), ?_⟩
    have sq := q H (Same.refl _)
    cases d with
    | int i => exact ⟨_, rfl, v, .ty "int", _, _, _, rfl, .ty _, Dt.ty hd, kit_int _, _, rfl, _, rfl, v, .ty "bool", _, _, _, rfl, .ty _, Dt.ty hd, kit_bool _, _, rfl, sq⟩
    | bool b => exact ⟨_, rfl, v, .ty "int", _, _, _, rfl, .ty _, Dt.ty hd, kit_int _, _, rfl, _, rfl, v, .ty "bool", _, _, _, rfl, .ty _, Dt.ty hd, kit_bool _, _, rfl, _, rfl, v, .ty "str", _, _, _, rfl, .ty _, Dt.ty hd, kit_str _, _, rfl, sq⟩
    | str x =>
      cases hd
      have few := nd.sm x rfl
      have hd : Dt true H (.str x) (.str x) := .str x
      refine ⟨_, rfl, .str x, .ty "int", _, _, _, rfl, .ty _, Dt.ty hd, kit_int _, _, rfl, _, rfl, .str x, .ty "str", _, _, _, rfl, .ty _, Dt.ty hd, kit_str _, _, rfl, _, rfl, x, rfl, (by rw [sizeLine_eq]; omega), _, _, rfl, rfl, _, rfl, ?_⟩
      have ll : (lets x).length = x.cps.size := by
        unfold lets
        rw [List.length_map, Array.length_toList]
      refine ite2 (fun a => ?_) (fun a => ?_)
      · have big : ¬ x.length ≤ 12 := fun z => by have z2 := of_decide_eq_true a; omega
        have e : kindV (.str x) = .non := by
          unfold kindV
          rw [kd_no fun z => big z.2]
          rfl
        rw [e] at sq
        exact sq
      · have small : x.length ≤ 12 := Classical.byContradiction fun z => a (decide_eq_true (by omega))
        refine ⟨_, rfl, x, rfl, fun p hp => lc_str (fun j G => Same H G ∧ G p = some (.lst (((lets x).take j).map V.bl))) ⟨same_new hp, upd_same⟩ ?_ ?_⟩
        · rintro i c G hc ⟨sm, at_⟩
          refine ⟨rfl, ?_⟩
          refine ⟨_, rfl, c, abc, rfl, rfl, _, at_, ?_, fun b o z => (upd_ne (ne_of_none z hp)).trans (sm _ _ z), ?_⟩
          · rw [List.length_map, List.length_take, ll]
            have e3 : x.cps.size ≤ 100 := few
            rw [sizeLine_eq]
            omega
          · have e2 : (lets x)[i]? = some (decide (c ∈ abc.cps.toList)) := by
              unfold lets
              rw [List.getElem?_map, Array.getElem?_toList, hc]
              rfl
            rw [upd_same, List.take_add_one, e2, List.map_append]
            rfl
        · rintro G ⟨sm, at_⟩
          rw [← ll, List.take_length] at at_
          have q' := q G sm
          refine ⟨p, lets x, rfl, SqL.of at_, _, rfl, ite2 (fun e => ?_) (fun e => ?_)⟩
          · have e4 : kindV (.str x) = .str "text" := by
              unfold kindV
              rw [kd_yes ⟨e, small⟩]
              rfl
            rw [e4] at q'
            exact q'
          · have e4 : kindV (.str x) = .non := by
              unfold kindV
              rw [kd_no fun z => e z.1]
              rfl
            rw [e4] at q'
            exact q'
    | _ => exact ⟨_, rfl, v, .ty "int", _, _, _, rfl, .ty _, Dt.ty hd, kit_int _, _, rfl, _, rfl, v, .ty "str", _, _, _, rfl, .ty _, Dt.ty hd, kit_str _, _, rfl, sq⟩
/-- the law's own sign of two values of one kind -/
def spLawSign : Sp := fun vs H Q _ => ∃ v u d e, vs = [v, u] ∧ Dt true H v d ∧ Dt true H u e ∧ kd d ≠ 0 ∧ kd d = kd e ∧ Q (.int (sgn d e)) H
theorem ok_law_sign {f : Addr} {fd : FuncData} (F : Fun K "_law_sign" "_law_sign" s__law_sign f fd) (T : Blt mg) : FnOk P w K mg base CX0 1 f fd ["_law_a", "_law_b"] spLawSign := by
  have sc := sc__law_sign
  refine F.ok sc (fun vs H Q E h => ?_) (fun cdv A outer s H vs Q E hr h => ?_)
  · obtain ⟨v, u, d, e, rfl, _⟩ := h
    rfl
  · obtain ⟨v, u, d, e, rfl, hd, he, h1, h2, q⟩ := h
    refine ⟨_, (pss_one (ps_ret (pe_op op_sub (pe_callTy call_int1 (by rfl) T.n_int (by decide +kernel) (pa_cons (pe_cmpR (op_or op_gt op_gt_str) (pv 0) (pv 1) (nomark _)) pa_nil)) (pe_callTy call_int1 (by rfl) T.n_int (by decide +kernel) (pa_cons (pe_cmpR (op_or op_lt op_lt_str) (pv 0) (pv 1) (nomark _)) pa_nil))))), ?_⟩
    rcases same_kind h1 h2 with ⟨i, j, rfl, rfl⟩ | ⟨x, y, rfl, rfl, _⟩
    · cases hd
      cases he
      refine ⟨_, rfl, _, rfl, .inl ⟨i, j, rfl, rfl, .inr ⟨_, rfl, _, rfl, _, rfl, .inl ⟨i, j, rfl, rfl, .inr ⟨_, rfl, _, _, rfl, rfl, ?_⟩⟩⟩⟩⟩
      have q' : Q (.int (if i < j then -1 else if j < i then 1 else 0)) H := q
      by_cases l1 : i < j
      · have l2 : ¬ j < i := by omega
        rw [decide_eq_true l1, decide_eq_false l2]
        rw [if_pos l1] at q'
        exact q'
      · by_cases l2 : j < i
        · rw [decide_eq_false l1, decide_eq_true l2]
          rw [if_neg l1, if_pos l2] at q'
          exact q'
        · rw [decide_eq_false l1, decide_eq_false l2]
          rw [if_neg l1, if_neg l2] at q'
          exact q'
    · cases hd
      cases he
      refine ⟨_, rfl, _, rfl, .inr ⟨x, y, rfl, rfl, .inr ⟨_, rfl, _, rfl, _, rfl, .inr ⟨x, y, rfl, rfl, .inr ⟨_, rfl, _, _, rfl, rfl, ?_⟩⟩⟩⟩⟩
      have q' : Q (.int (if x.cps.toList < y.cps.toList then -1 else if y.cps.toList < x.cps.toList then 1 else 0)) H := q
      by_cases l1 : x.cps.toList < y.cps.toList
      · have l2 : ¬ y.cps.toList < x.cps.toList := fun z => List.lt_asymm l1 z
        rw [decide_eq_true l1, decide_eq_false l2]
        rw [if_pos l1] at q'
        exact q'
      · by_cases l2 : y.cps.toList < x.cps.toList
        · rw [decide_eq_false l1, decide_eq_true l2]
          rw [if_neg l1, if_pos l2] at q'
          exact q'
        · rw [decide_eq_false l1, decide_eq_false l2]
          rw [if_neg l1, if_neg l2] at q'
          exact q'
end
end K15

set_option Elab.async false
set_option linter.all false
set_option maxRecDepth 100000
set_option maxHeartbeats 8000000
namespace K15
open PySem PySem.Spec L2 PSG
open PyProof.Rows (IntsAre AllBare)

/-- a text of at most twelve letters -/
structure Txt12 (x : Str) : Prop where
  abc : ∀ c ∈ x.cps.toList, c ∈ abc.cps.toList
  few : x.length ≤ 12
section
variable {P : Program} {w : World} {K : PySem.W.Frag} {mg : Str → Option Value} {base : Heap}
def spNumber : Sp := fun vs H Q _ => ∃ r : Addr, vs = [.ref r] ∧ Rg H r ∧ ∀ i H', i.natAbs ≤ 10 ^ 29 → Rg H' r → But r H H' → Q (.int i) H'
theorem ok_number {f f1 : Addr} {fd d1 : FuncData} (F : Fun K "_law_number" "_law_number" s__law_number f fd) (T : Blt mg) (F__law_draw : Fun K "_law_draw" "_law_draw" s__law_draw f1 d1) (b__law_draw : Binds K d1 ["_law_rng_here", "_law_many"] []) (g__law_draw : mg "_law_draw" = some (.ref f1)) :
    FnOk P w K mg base CX0 2 f fd ["_law_rng_here"] spNumber := by
  have sc := sc__law_number
  have G__law_draw : FnOk P w K mg base CX0 1 f1 d1 _ spDraw := ok_draw F__law_draw T
  refine F.ok sc (fun vs H Q E h => ?_) (fun cdv A outer s H vs Q E hr h => ?_)
  · obtain ⟨r, rfl, _⟩ := h
    rfl
  · obtain ⟨r, rfl, hR, q⟩ := h
    have t29 : ((10 : Int) ^ (29 : Int).toNat) = 100000000000000000000000000000 := by decide +kernel
    have n29 : (10 : Nat) ^ 29 = 100000000000000000000000000000 := by decide +kernel
    have two200 : (2 : Int) ^ 200 = 1606938044258990275541962092341162602522202993782792835301376 := by decide +kernel
    rw [n29] at q
    refine ⟨_, (pss_cons (ps_set (i := 1) sc.nd rfl (.inl rfl) (pe_ix ix_list (pe_lst (pa_cons pe_int (pa_cons pe_int (pa_cons (pe_op op_pow pe_int pe_int) pa_nil)))) (pe_call G__law_draw (hr.mono (by decide)) (by rfl) g__law_draw F__law_draw.kp b__law_draw .nil pass0 (pa_cons (pv 0) (pa_cons pe_int pa_nil))) (fun _ _ => rfl)))
      (pss_one (ps_ret (pe_op op_sub (pe_call G__law_draw (hr.mono (by decide)) (by rfl) g__law_draw F__law_draw.kp b__law_draw .nil pass0 (pa_cons (pv 0) (pa_cons (pv 1) pa_nil))) (pe_op op_mul (pe_call G__law_draw (hr.mono (by decide)) (by rfl) g__law_draw F__law_draw.kp b__law_draw .nil pass0 (pa_cons (pv 0) (pa_cons pe_int pa_nil))) (pe_call G__law_draw (hr.mono (by decide)) (by rfl) g__law_draw F__law_draw.kp b__law_draw .nil pass0 (pa_cons (pv 0) (pa_cons (pv 1) pa_nil)))))))), ?_⟩
    refine ⟨_, _, rfl, rfl, ⟨by decide, by decide, by decide⟩, (by show 3 ≤ sizeLine; decide), fun p hp => ?_⟩
    have at1 : upd H p (.lst [.int 3, .int 6, .int ((10 : Int) ^ (29 : Int).toNat)]) p = some (.lst [.int 3, .int 6, .int ((10 : Int) ^ (29 : Int).toNat)]) := upd_same
    have g1 := hR.new (o := .lst [.int 3, .int 6, .int ((10 : Int) ^ (29 : Int).toNat)]) hp
    have b1 := But.of (r := r) (same_new (o := .lst [.int 3, .int 6, .int ((10 : Int) ^ (29 : Int).toNat)]) hp)
    have npr : p ≠ r := fun z => by
      obtain ⟨o, e⟩ := hR.some
      rw [z, e] at hp
      cases hp
    generalize upd H p (.lst [.int 3, .int 6, .int ((10 : Int) ^ (29 : Int).toNat)]) = H1 at at1 g1 b1 ⊢
    rw [t29] at at1
    refine ⟨_, rfl, r, 3, rfl, g1, by decide, by decide, fun d H2 d0 d1 g2 b2 => ?_⟩
    have at2 := b2 _ _ npr at1
    have ix : ∃ m : Int, atI [V.int 3, V.int 6, V.int 100000000000000000000000000000] d = some (V.int m) ∧ 0 < m ∧ m ≤ 100000000000000000000000000000 := by
      have c : d = 0 ∨ d = 1 ∨ d = 2 := by omega
      rcases c with rfl | rfl | rfl
      · exact ⟨3, atI_nat (j := 0) rfl, by decide, by decide⟩
      · exact ⟨6, atI_nat (j := 1) rfl, by decide, by decide⟩
      · exact ⟨100000000000000000000000000000, atI_nat (j := 2) rfl, by decide, by decide⟩
    obtain ⟨m, hm, m0, m1⟩ := ix
    refine ⟨p, _, d, .int m, rfl, rfl, SqL.of at2, hm, ?_⟩
    refine ⟨_, rfl, _, rfl, r, m, rfl, g2, m0, by rw [two200]; omega, fun x H3 x0 x1 g3 b3 => ?_⟩
    refine ⟨_, rfl, r, 2, rfl, g3, by decide, by decide, fun y H4 y0 y1 g4 b4 => ?_⟩
    refine ⟨_, rfl, _, rfl, r, m, rfl, g4, m0, by rw [two200]; omega, fun z H5 z0 z1 g5 b5 => ?_⟩
    refine ⟨y, z, rfl, rfl, .inl ⟨by omega, by omega⟩, x, y * z, rfl, rfl, q _ _ ?_ g5 ((((b1.trans b2).trans b3).trans b4).trans b5)⟩
    have c : y = 0 ∨ y = 1 := by omega
    rcases c with rfl | rfl
    · rw [Int.zero_mul]
      omega
    · rw [Int.one_mul]
      omega
theorem app_mem {x y : Str} {c : Nat} (h : c ∈ (x ++ y).cps.toList) : c ∈ x.cps.toList ∨ c ∈ y.cps.toList := by
  have e : (x ++ y).cps = x.cps ++ y.cps := rfl
  rw [e, Array.toList_append] at h
  exact List.mem_append.mp h
theorem app_len (x y : Str) : (x ++ y).length = x.length + y.length := by
  show (x.cps ++ y.cps).size = x.cps.size + y.cps.size
  exact Array.size_append
/-- letters one by one, put together -/
theorem join_ok : ∀ ys : List Str, (∀ y ∈ ys, (∀ c ∈ y.cps.toList, c ∈ abc.cps.toList) ∧ y.length = 1) → (∀ c ∈ (Str.join "" ys).cps.toList, c ∈ abc.cps.toList) ∧ (Str.join "" ys).length ≤ ys.length
  | [], _ => ⟨fun c h => by simp [Str.join] at h; exact absurd h (by simp [Str.empty]), Nat.zero_le _⟩
  | [y], h => ⟨(h y List.mem_cons_self).1, Nat.le_of_eq (h y List.mem_cons_self).2⟩
  | x :: y :: r, h => by
    have ih := join_ok (y :: r) fun z m => h z (List.mem_cons_of_mem _ m)
    have hx := h x List.mem_cons_self
    have e : Str.join "" (x :: y :: r) = x ++ "" ++ Str.join "" (y :: r) := rfl
    rw [e]
    refine ⟨fun c hc => ?_, ?_⟩
    · rcases app_mem hc with hc | hc
      · rcases app_mem hc with hc | hc
        · exact hx.1 c hc
        · cases hc
      · exact ih.1 c hc
    · rw [app_len, app_len, hx.2]
      have e0 : ("" : Str).length = 0 := rfl
      have l1 := ih.2
      simp only [List.length_cons] at l1 ⊢
      omega
theorem ones_sum : ∀ ys : List Str, (∀ y ∈ ys, (∀ c ∈ y.cps.toList, c ∈ abc.cps.toList) ∧ y.length = 1) → (ys.map (·.length)).sum = ys.length
  | [], _ => rfl
  | y :: r, h => by
    rw [List.map_cons, List.sum_cons, ones_sum r fun z m => h z (List.mem_cons_of_mem _ m), (h y List.mem_cons_self).2, List.length_cons]
    omega
def spText : Sp := fun vs H Q _ => ∃ r : Addr, vs = [.ref r] ∧ Rg H r ∧ ∀ y H', Txt12 y → y.length ≤ 3 → Rg H' r → But r H H' → Q (.str y) H'
theorem ok_text {f f1 : Addr} {fd d1 : FuncData} (F : Fun K "_law_text" "_law_text" s__law_text f fd) (T : Blt mg) (F__law_draw : Fun K "_law_draw" "_law_draw" s__law_draw f1 d1) (b__law_draw : Binds K d1 ["_law_rng_here", "_law_many"] []) (g__law_draw : mg "_law_draw" = some (.ref f1)) :
    FnOk P w K mg base CX0 2 f fd ["_law_rng_here"] spText := by
  have sc := sc__law_text
  have G__law_draw : FnOk P w K mg base CX0 1 f1 d1 _ spDraw := ok_draw F__law_draw T
  refine F.ok sc (fun vs H Q E h => ?_) (fun cdv A outer s H vs Q E hr h => ?_)
  · obtain ⟨r, rfl, _⟩ := h
    rfl
  · obtain ⟨r, rfl, hR, q⟩ := h
    refine ⟨_, (pss_one (ps_ret (pe_join pe_str (pe_lc (own := [("_law_k", 1)]) (g := gName 1) (tt := tYes) (by rfl) sc.nd (pi_range1 (by rfl) T.n_range (pa_cons (pe_call G__law_draw (hr.mono (by decide)) (by rfl) g__law_draw F__law_draw.kp b__law_draw .nil pass0 (pa_cons (pv 0) (pa_cons pe_int pa_nil))) pa_nil)) (blkOk_by (own := [("_law_k", 1)]) (N := ["_law_rng_here", "_law_k"]) (sc := defScope s__law_text) (by decide +kernel)) (fun _ _ _ _ _ => pg_name (i := 1) sc.nd rfl (Or.inl rfl)) (fun _ _ _ _ _ => pts_nil) (fun _ _ _ _ _ => (pe_ix ix_str pe_str (pe_call G__law_draw (hr.mono (by decide)) (by rfl) g__law_draw F__law_draw.kp b__law_draw .nil pass0 (pa_cons (pv 0) (pa_cons pe_int pa_nil))) (fun _ _ => rfl))))))), ?_⟩
    have lA : ("ab" : Str).length = 2 := by decide +kernel
    have lA2 : ("ab" : Str).cps.toList.length = 2 := by decide +kernel
    have letter : ∀ c : Int, 0 ≤ c → c < 2 → ∃ z, atI ("ab" : Str).cps.toList c = some z ∧ z ∈ abc.cps.toList := fun c c0 c1 => by
      obtain ⟨m, rfl⟩ := Int.eq_ofNat_of_zero_le c0
      have lt : m < ("ab" : Str).cps.toList.length := by omega
      refine ⟨_, atI_nat (List.getElem?_eq_getElem lt), ?_⟩
      have sub : ∀ z ∈ ("ab" : Str).cps.toList, z ∈ abc.cps.toList := by decide +kernel
      exact sub _ (List.getElem_mem lt)
    refine ⟨⟨_, rfl⟩, _, rfl, r, 4, rfl, hR, by decide, by decide, fun m H4 m0 m1 g4 b4 => ⟨m, rfl, by omega, by omega, fun D hD => ?_⟩⟩
    have nDr : D ≠ r := fun z => by
      obtain ⟨o, e⟩ := g4.some
      rw [z, e] at hD
      cases hD
    refine lc_range (lo := 0) (n := m.toNat) (fun j G => Rg G r ∧ (∀ b o, b ≠ r → b ≠ D → upd H4 D (.lst []) b = some o → G b = some o) ∧ ∃ ys : List Str, G D = some (.lst (ys.map V.str)) ∧ ys.length = j ∧ ∀ y ∈ ys, (∀ c ∈ y.cps.toList, c ∈ abc.cps.toList) ∧ y.length = 1)
      ⟨g4.new hD, fun b o _ _ e => e, [], upd_same, rfl, fun y hy => nomatch hy⟩ ?_ ?_
    · rintro j G hj ⟨gR, keep, ys, aD, ly, oy⟩
      refine ⟨rfl, ?_⟩
      refine ⟨_, rfl, r, 2, rfl, gR, by decide, by decide, fun c H5 c0 c1 g5 b5 => ?_⟩
      obtain ⟨z, hz, mz⟩ := letter c c0 c1
      have aD5 := b5 _ _ nDr aD
      refine ⟨"ab", c, z, rfl, rfl, by rw [lA, sizeLine_eq]; omega, hz, _, aD5, by rw [List.length_map, sizeLine_eq]; omega, ?_, fun b o n1 n2 e => (upd_ne n2).trans (b5 _ _ n1 (keep _ _ n1 n2 e)), ys ++ [⟨#[z]⟩], ?_, by rw [List.length_append, ly]; rfl, fun y hy => ?_⟩
      · obtain ⟨x', y', e, z'⟩ := g5
        exact ⟨x', y', (upd_ne (Ne.symm nDr)).trans e, z'⟩
      · rw [upd_same, List.map_append]
        rfl
      · rcases List.mem_append.mp hy with hy | hy
        · exact oy y hy
        · have ey : y = ⟨#[z]⟩ := by simpa using hy
          rw [ey]
          exact ⟨fun c' hc' => by
            have ec : c' = z := by simpa using hc'
            rw [ec]
            exact mz, rfl⟩
    · rintro G ⟨gR, keep, ys, aD, ly, oy⟩
      have jo := join_ok ys oy
      have few2 : ys.length ≤ 12 := by omega
      refine ⟨"", D, ys, rfl, rfl, .inl (SqL.of aD), ?_, ?_⟩
      · have e1 := ones_sum ys oy
        have e0 : ("" : Str).length = 0 := rfl
        rw [e1, e0]
        omega
      · rw [TL.join_eq]
        refine q _ _ ⟨jo.1, Nat.le_trans jo.2 few2⟩ (by have := jo.2; omega) gR fun b o n e => ?_
        have e2 := b4 _ _ n e
        exact keep b o n (ne_of_none e2 hD) ((upd_ne (ne_of_none e2 hD)).trans e2)
end
end K15

set_option Elab.async false
set_option linter.all false
set_option maxRecDepth 100000
set_option maxHeartbeats 8000000
namespace K15
open PySem PySem.Spec L2 PSG PSS
open PyProof.Rows (IntsAre AllBare)
abbrev s_weak_order_of : Stmt := topS 16
theorem sc_weak_order_of : FnScope ["values", "value", "ranks", "rank"] ["values"] (defScope s_weak_order_of) := ⟨rfl, rfl, rfl, by decide +kernel, rfl, by decide +kernel, by decide +kernel⟩

theorem valD_yes {d : PyData} (h : valD d = true) : kd d ≠ 0 := by
  intro z
  unfold valD at h
  rw [z] at h
  cases h
theorem valD_no {d : PyData} (h : valD d = false) : kd d = 0 := by
  unfold valD at h
  simpa using h
/-- the key that a value is -/
def kyD : PyData → Key
  | .int i => .inl i
  | .str x => .inr x
  | _ => .inl 0
theorem ky_dt {H : Hp} {v : V} {d : PyData} (h : Dt true H v d) (k : kd d ≠ 0) : v = kV (kyD d) := by
  cases h with
  | int i => rfl
  | str x => rfl
  | _ => exact absurd rfl k
theorem ky_all {H : Hp} : ∀ {vs : List V} {ds : List PyData}, DtAll true H vs ds → (∀ d ∈ ds, kd d ≠ 0) → vs = (ds.map kyD).map kV
  | _, _, .nil, _ => rfl
  | _, _, .cons h hs, n => by
    rw [List.map_cons, List.map_cons, ← ky_dt h (n _ List.mem_cons_self), ← ky_all hs fun d m => n d (List.mem_cons_of_mem _ m)]
theorem dt_ky {H : Hp} {d : PyData} (k : kd d ≠ 0) : Dt true H (kV (kyD d)) d := by
  cases d with
  | int i => exact .int i
  | str x => exact .str x
  | _ => exact absurd rfl k
/-- the keys' kinds, as texts -/
def kinds (ds : List PyData) : List Key := ds.map fun d => .inr (kindT d)
def uni (ds : List PyData) : Bool := decide ((sof (kinds ds)).length ≤ 1)
def ranks (ds : List PyData) : List Int := ds.map fun d => ((rankK (ds.map kyD) (kyD d) : Nat) : Int)
theorem two_in {L : List Key} (n : L.Nodup) (few : L.length ≤ 1) {a b : Key} (ha : a ∈ L) (hb : b ∈ L) : a = b := by
  match L, few with
  | [], _ => cases ha
  | [x], _ =>
    rw [List.mem_singleton.mp ha, List.mem_singleton.mp hb]
theorem kind_key {d : PyData} (k : kd d ≠ 0) : (kindT d = "number" ∧ isIK (kyD d)) ∨ (kindT d = "text" ∧ isSK (kyD d)) := by
  cases d with
  | int i => exact .inl ⟨rfl, i, rfl⟩
  | str x => exact .inr ⟨rfl, x, rfl⟩
  | _ => exact absurd rfl k
theorem uni_one {ds : List PyData} (u : uni ds = true) (n : ∀ d ∈ ds, kd d ≠ 0) : OneK (ds.map kyD) := by
  have few := of_decide_eq_true u
  have same : ∀ d ∈ ds, ∀ e ∈ ds, kindT d = kindT e := fun d hd e he => by
    have z := two_in (nd_sof (kinds ds)) few (mem_sof.mpr (List.mem_map_of_mem hd)) (mem_sof.mpr (List.mem_map_of_mem he))
    exact Sum.inr.inj z
  have ne : ("number" : Str) ≠ "text" := by decide
  cases ds with
  | nil => exact .inl fun k h => by cases h
  | cons d r =>
    rcases kind_key (n d List.mem_cons_self) with ⟨a, _⟩ | ⟨a, _⟩
    · refine .inl fun k hk => ?_
      obtain ⟨e, he, rfl⟩ := List.mem_map.mp hk
      rcases kind_key (n e he) with ⟨_, z⟩ | ⟨b, _⟩
      · exact z
      · exact absurd (a.symm.trans ((same d List.mem_cons_self e he).trans b)) ne
    · refine .inr fun k hk => ?_
      obtain ⟨e, he, rfl⟩ := List.mem_map.mp hk
      rcases kind_key (n e he) with ⟨b, _⟩ | ⟨_, z⟩
      · exact absurd (b.symm.trans ((same e he d List.mem_cons_self).trans a)) ne
      · exact z
/-- the first one that is no value -/
def bad (ds : List PyData) : Option PyData := ds.find? fun d => kd d == 0
theorem bad_none {ds : List PyData} : bad ds = none ↔ ∀ d ∈ ds, kd d ≠ 0 := by
  unfold bad
  rw [List.find?_eq_none]
  simp
theorem bad_at {ds : List PyData} {i : Nat} {d : PyData} (h : ds[i]? = some d) (z : kd d = 0) (b : ∀ j e, j < i → ds[j]? = some e → kd e ≠ 0) : bad ds = some d := by
  unfold bad
  rw [List.find?_eq_some_iff_getElem]
  obtain ⟨lt, e⟩ := List.getElem?_eq_some_iff.mp h
  refine ⟨by simp [z], i, lt, e, fun j hj => ?_⟩
  simp [b j _ hj (List.getElem?_eq_getElem (Nat.lt_trans hj lt))]
theorem rank_map {P : Key → Nat} : ∀ (ds : List PyData), (ds.map kyD).map (fun k => V.int ((P k : Nat) : Int)) = (ds.map fun d => ((P (kyD d) : Nat) : Int)).map V.int
  | [] => rfl
  | d :: r => by
    rw [List.map_cons, List.map_cons, List.map_cons, List.map_cons, rank_map r]
/-- the weak order of a list or a tuple, or what is raised -/
def spWeak (K : PySem.W.Frag) (CI CU : Addr) : Sp := fun vs H Q E => ∃ a xs ds, vs = [.ref a] ∧ (SqL K H a xs ∨ SqT K H a xs) ∧ DtAll true H xs ds ∧ (∀ d ∈ ds, Thing d) ∧ ds.length ≤ 20 ∧
  (bad ds = none → uni ds = true → ∀ p G H', Same H G → G p = none → H' = upd G p (.tup ((ranks ds).map V.int)) → Q (.ref p) H') ∧
  (bad ds = none → uni ds = false → ∀ o H', Same H H' → ExS H' o [] → E (.ref CU) o H') ∧
  (∀ v d, bad ds = some d → Dt true H v d → ∀ o H', Same H H' → ExS H' o [("value", v)] → E (.ref CI) o H')
section
variable {P : Program} {w : World} {K : PySem.W.Frag} {mg : Str → Option Value} {base : Heap}
theorem ok_weak {CI CU f f1 f2 : Addr} {fd d1 d2 : FuncData} (F : Fun K "weak_order_of" "weak_order_of" s_weak_order_of f fd) (OI : Own P w K mg base "InvalidValue" CI ["value"]) (OU : Own P w K mg base "Unlike" CU [])
    (F_is_value : Fun K "is_value" "is_value" s_is_value f1 d1) (b_is_value : Binds K d1 ["value"] []) (g_is_value : mg "is_value" = some (.ref f1)) (G_is_value : FnOk P w K mg base CX0 2 f1 d1 ["value"] (spAsk valD))
    (F_kind_of_value : Fun K "kind_of_value" "kind_of_value" s_kind_of_value f2 d2) (b_kind_of_value : Binds K d2 ["value"] []) (g_kind_of_value : mg "kind_of_value" = some (.ref f2)) (T : Blt mg) :
    FnOk P w K mg base (L2.CX P w) 3 f fd ["values"] (spWeak K CI CU) := by
  have sc := sc_weak_order_of
  have G_kind_of_value : FnOk P w K mg base CX0 1 f2 d2 ["value"] spKindOf := ok_kind_of F_kind_of_value T
  refine Fun.okX F sc (fun vs H Q E h => ?_) (fun cdv A outer s H vs Q E hr h => ?_)
  · obtain ⟨a, xs, ds, rfl, _⟩ := h
    rfl
  · obtain ⟨a, xs, ds, rfl, hq, hd, th, few, q1, q2, q3⟩ := h
    have hu := hu_of hr
    have lx : xs.length = ds.length := hd.length
    refine ⟨_, (pss_cons (ps_for (passes_of rfl) (by rfl) (pi_or (pi_list (pv 0)) (pi_tup (pv 0))) (pg_name (i := 1) sc.nd rfl (.inl rfl)) (pss_one (ps_if (pt_not (pt_val (pe_call G_is_value (hr.mono (by decide)) (by rfl) g_is_value F_is_value.kp b_is_value .nil pass0 (pa_cons (pv 1) pa_nil)))) (pss_one (ps_raise rfl (takes_of rfl rfl rfl rfl) (pmk_own1 OI (hr.mono (by decide)) (by rfl) (pa_cons (pv 1) pa_nil)))) pss_nil)))
      (pss_cons (ps_if (pt_cmpR op_gt (pe_callB cr_lenM (by rfl) T.n_len PySem.boot_len (pa_cons (pe_scM (own := [("value", 1)]) (g := gName 1) (tt := tYes) (by rfl) sc.nd (pi_or (pi_list (pv 0)) (pi_tup (pv 0))) (blkOk_by (own := [("value", 1)]) (N := ["values", "value", "ranks", "rank"]) (sc := defScope s_weak_order_of) (by decide +kernel)) (fun _ _ _ _ _ => pg_name (i := 1) sc.nd rfl (Or.inl rfl)) (fun _ _ _ _ _ => pts_nil) (fun _ _ _ _ _ => (pe_call G_kind_of_value (hr.mono (by decide)) (by rfl) g_kind_of_value F_kind_of_value.kp b_kind_of_value .nil pass0 (pa_cons (pv 1) pa_nil)))) pa_nil)) pe_int (nomark _)) (pss_one (ps_raise rfl (takes_of rfl rfl rfl rfl) (pmk_own0 OU (hr.mono (by decide)) (by rfl)))) pss_nil)
      (pss_cons (ps_set (i := 2) sc.nd rfl (.inr rfl) (pe_dc (own := [("rank", 3), ("value", 1)]) (g := gTup K 2 _) (tt := tYes) (by rfl) sc.nd (pi_enum (by rfl) T.n_enumerate (pa_cons (pe_callB (cr_sortK (by rfl)) (by rfl) T.n_sorted (by decide +kernel) (pa_cons (pe_callTy (cr_setOf (by rfl)) (by rfl) T.n_set (by decide +kernel) (pa_cons (pv 0) pa_nil)) pa_nil)) pa_nil)) (blkOk_by (own := [("rank", 3), ("value", 1)]) (N := ["values", "value", "ranks", "rank"]) (sc := defScope s_weak_order_of) (by decide +kernel)) (fun _ _ _ _ _ => pg_tup (by rfl) (pgs_cons (pg_name (i := 3) sc.nd rfl (Or.inl rfl)) (pgs_cons (pg_name (i := 1) sc.nd rfl (Or.inl rfl)) pgs_nil))) (fun _ _ _ _ _ => pts_nil) (fun _ _ _ _ _ => (pv 1)) (fun _ _ _ _ _ => (pv 3))))
      (pss_one (ps_ret (pe_callTy call_tuple_of (by rfl) T.n_tuple (by decide +kernel) (pa_cons (pe_lc (own := [("value", 1)]) (g := gName 1) (tt := tYes) (by rfl) sc.nd (pi_or (pi_list (pv 0)) (pi_tup (pv 0))) (blkOk_by (own := [("value", 1)]) (N := ["values", "value", "ranks", "rank"]) (sc := defScope s_weak_order_of) (by decide +kernel)) (fun _ _ _ _ _ => pg_name (i := 1) sc.nd rfl (Or.inl rfl)) (fun _ _ _ _ _ => pts_nil) (fun _ _ _ _ _ => (pe_dget hu (pv 2) (pv 1) (fun _ _ => rfl)))) pa_nil))))))), ?_⟩
    refine seq_or rfl hq fun J wk => for_wk wk (fun i σ G => ∃ y, σ = [some (.ref a), y, none, none] ∧ Same H G ∧ ∀ j e, j < i → ds[j]? = some e → kd e ≠ 0) ⟨none, rfl, Same.refl _, fun j e lt => by omega⟩ (fun i σ G _ ⟨_, _, k, _⟩ => k) ?_ ?_
    · rintro i x σ G hx ⟨y, rfl, k, ok⟩
      obtain ⟨d, hd2, hdx⟩ := hd.get hx
      refine ⟨_, rfl, x, d, rfl, hdx.same k, th d (List.mem_of_getElem? hd2), fun H1 s1 => ⟨_, rfl, ite2 (fun z => ?_) (fun z => ?_)⟩⟩
      · exact ⟨_, rfl, rfl, (by show 1 ≤ 1000; decide), fun o H3 s3 xs => q3 x d (bad_at hd2 (valD_no (by simpa using z)) ok) hdx o H3 (k.trans (s1.trans s3)) xs⟩
      · refine ⟨_, rfl, k.trans s1, fun j e lt he => ?_⟩
        by_cases ji : j = i
        · subst ji
          rw [hd2] at he
          cases he
          exact valD_yes (by simpa using z)
        · exact ok j e (by omega) he
    · rintro σ G ⟨y, rfl, k, ok⟩
      have nb : ∀ d ∈ ds, kd d ≠ 0 := fun d m => by
        obtain ⟨j, hj⟩ := List.mem_iff_getElem?.mp m
        exact ok j d (by rw [lx]; exact (List.getElem?_eq_some_iff.mp hj).1) hj
      have bn : bad ds = none := bad_none.mpr nb
      have xk : xs = (ds.map kyD).map kV := ky_all hd nb
      have hqG : SqL K G a xs ∨ SqT K G a xs := hq.imp (fun z => k.seq z) fun z => same_tup k z
      have lk : (ds.map kyD).length = ds.length := List.length_map ..
      have lxd : (kinds ds).length = ds.length := List.length_map ..
      refine seq_or rfl hqG fun J1 wk1 D hD => w_wk wk1 (fun i G' => Same G G' ∧ G' D = some (SetMO P w D (sof ((kinds ds).take i)))) ⟨same_new hD, upd_same⟩ (fun i G' _ z => z.1) ?_ ?_
      · rintro i x G' hx ⟨k1, at1⟩
        obtain ⟨d, hd2, hdx⟩ := hd.get hx
        refine ⟨rfl, ?_⟩
        have lt : i < ds.length := (List.getElem?_eq_some_iff.mp hd2).1
        have hk : (kinds ds)[i]? = some (Sum.inr (kindT d)) := by
          unfold kinds
          rw [List.getElem?_map, hd2]
          rfl
        have ln := len_sof ((kinds ds).take i)
        rw [List.length_take] at ln
        refine ⟨_, rfl, x, d, rfl, hdx.same (k.trans k1), Sum.inr (kindT d), _, rfl, at1, by unfold scanBound; omega, fun b o e => (upd_ne (ne_of_none e hD)).trans (k1 b o e), ?_⟩
        rw [sof_take hk]
        exact upd_same
      · rintro G1 ⟨k1, at1⟩
        rw [show xs.length = (kinds ds).length from by rw [lx, lxd], List.take_length] at at1
        refine ⟨D, _, rfl, at1, _, _, rfl, rfl, _, rfl, ite2 (fun z => ?_) (fun z => ?_)⟩
        · refine ⟨rfl, Nat.zero_le _, fun o H3 s3 xs => q2 bn (decide_eq_false fun le => ?_) o H3 (k.trans (k1.trans s3)) xs⟩
          have z2 := of_decide_eq_true z
          omega
        · have un : uni ds = true := decide_eq_true (Classical.byContradiction fun y => z (decide_eq_true (by omega)))
          have one := uni_one un nb
          have kG1 := k.trans k1
          have hqG1 : SqL K G1 a ((ds.map kyD).map kV) ∨ SqT K G1 a ((ds.map kyD).map kV) := by
            rw [← xk]
            exact hq.imp (fun z => kG1.seq z) fun z => same_tup kG1 z
          refine ⟨_, rfl, a, ds.map kyD, rfl, hqG1, by omega, fun A1 hA1 => ?_⟩
          have oneS : OneK (sof (ds.map kyD)) := one.imp (fun z k m => z k (mem_sof.mp m)) fun z k m => z k (mem_sof.mp m)
          have lS := len_sof (ds.map kyD)
          refine ⟨A1, _, rfl, upd_same, by omega, oneS, fun zs p pw mem len hp => ?_⟩
          have memK : ∀ k, k ∈ zs ↔ k ∈ ds.map kyD := fun k => (mem k).trans mem_sof
          have zl : zs.length ≤ 20 := by omega
          have s3 : ∀ {o1 o2 : HO}, Same G1 (upd (upd G1 A1 o1) p o2) := fun {o1 o2} b o e => by
            have z1 : upd G1 A1 o1 b = some o := (upd_ne (ne_of_none e hA1)).trans e
            exact (upd_ne (fun z => by
              rw [z] at e
              have np : G1 p = none := by
                by_cases pa : p = A1
                · rw [pa]; exact hA1
                · rw [upd_ne pa] at hp; exact hp
              rw [np] at e
              cases e)).trans z1
          have at3 : ∀ {o1 : HO}, upd (upd G1 A1 o1) p (.lst (zs.map kV)) p = some (.lst (zs.map kV)) := upd_same
          generalize hG3 : upd (upd G1 A1 _) p (HO.lst (zs.map kV)) = G3
          have s3 : Same G1 G3 := hG3 ▸ s3
          have at3 : G3 p = some (.lst (zs.map kV)) := hG3 ▸ at3
          refine ⟨p, zs.map kV, rfl, SqL.of at3, fun DD hDD => ?_⟩
          refine w_enum (fun i G' => Same G3 G' ∧ ∃ kvs, G' DD = some (.dK kvs) ∧ kvs.length ≤ i ∧ ∀ j k, j < i → zs[j]? = some k → valV kvs k = some (.int (j : Nat)))
            ⟨same_new hDD, [], upd_same, Nat.le_refl _, fun j k lt => by omega⟩ (fun i G' _ z => SqL.of (z.1 _ _ at3)) ?_ ?_
          · rintro i x G' TT hx ⟨k4, kvs, at4, l4, val4⟩ hTT
            obtain ⟨ky, hky, rfl⟩ : ∃ ky, zs[i]? = some ky ∧ x = kV ky := by
              rw [List.getElem?_map] at hx
              cases e : zs[i]? with
              | none => rw [e] at hx; cases hx
              | some ky => rw [e] at hx; exact ⟨ky, rfl, (Option.some.inj hx).symm⟩
            have ti : i < zs.length := (List.getElem?_eq_some_iff.mp hky).1
            have nT : DD ≠ TT := ne_of_none at4 hTT
            refine ⟨TT, _, rfl, SqT.of upd_same, rfl, _, _, rfl, _, _, rfl, rfl, ?_⟩
            refine ⟨rfl, ?_⟩
            refine ⟨_, rfl, _, rfl, kvs, ky, rfl, (upd_ne nT).trans at4, by rw [sizeLine_eq]; omega, fun b o e => ?_, putK kvs ky (.int (i : Nat)), upd_same, ?_, fun j k lt hj => ?_⟩
            · have z1 := k4 b o e
              exact (upd_ne (ne_of_none e hDD)).trans ((upd_ne (ne_of_none z1 hTT)).trans z1)
            · have z1 := length_putK kvs ky (.int (i : Nat))
              omega
            · rw [valV_put]
              by_cases ji : j = i
              · subst ji
                rw [hky] at hj
                cases hj
                rw [if_pos rfl]
              · have nk : ¬ k = ky := fun e => by
                  subst e
                  have r1 := rank_at pw memK hj
                  have r2 := rank_at pw memK hky
                  omega
                rw [if_neg nk]
                exact val4 j k (by omega) hj
          · rintro G4 ⟨k4, kvs, at4, l4, val4⟩
            rw [List.length_map] at val4
            have kG4 : Same H G4 := kG1.trans (s3.trans k4)
            have hqG4 : SqL K G4 a xs ∨ SqT K G4 a xs := hq.imp (fun z => kG4.seq z) fun z => same_tup kG4 z
            refine seq_or rfl hqG4 fun J5 wk5 D5 hD5 => w_wk wk5 (fun i G' => Same G4 G' ∧ G' D5 = some (.lst (((ranks ds).take i).map V.int))) ⟨same_new hD5, upd_same⟩ (fun i G' _ z => z.1) ?_ ?_
            · rintro i x G' hx ⟨k5, at5⟩
              obtain ⟨d, hd2, hdx⟩ := hd.get hx
              have mk : kyD d ∈ zs := (memK _).mpr (List.mem_map_of_mem (List.mem_of_getElem? hd2))
              obtain ⟨j, hj⟩ := List.mem_iff_getElem?.mp mk
              have rk := rank_at pw memK hj
              have jl : j < zs.length := (List.getElem?_eq_some_iff.mp hj).1
              have ex : x = kV (kyD d) := ky_dt hdx (nb d (List.mem_of_getElem? hd2))
              subst ex
              have hr2 : (ranks ds)[i]? = some ((j : Nat) : Int) := by
                unfold ranks
                rw [List.getElem?_map, hd2, ← rk]
                rfl
              refine ⟨rfl, ?_⟩
              have il : i < ds.length := (List.getElem?_eq_some_iff.mp hd2).1
              have dg := DGet.k (k := kyD d) (k5 _ _ at4)
              rw [val4 j _ jl hj] at dg
              refine ⟨_, rfl, _, rfl, DD, _, rfl, dg, _, at5, ?_, fun b o e => (upd_ne (ne_of_none e hD5)).trans (k5 b o e), ?_⟩
              · rw [List.length_map, List.length_take, sizeLine_eq]
                omega
              · rw [upd_same, List.take_add_one, hr2, List.map_append]
                rfl
            · rintro G5 ⟨k5, at5⟩
              have lr : (ranks ds).length = ds.length := List.length_map ..
              rw [show xs.length = (ranks ds).length from by rw [lx, lr], List.take_length] at at5
              exact ⟨D5, _, rfl, .inl ⟨SqL.of at5, fun l hl => q1 bn un l G5 _ (kG4.trans k5) hl rfl⟩⟩
end
end K15

set_option Elab.async false
set_option linter.all false
set_option maxRecDepth 100000
set_option maxHeartbeats 8000000
namespace K15
open PySem PySem.Spec L2 PSG PSS
open PyProof.Rows (IntsAre AllBare)
abbrev s__law_due : Stmt := topS 27
theorem sc__law_due : FnScope ["_law_some", "_law_kinds", "_law_thing", "_law_x"] ["_law_some"] (defScope s__law_due) := ⟨rfl, rfl, rfl, by decide +kernel, rfl, by decide +kernel, by decide +kernel⟩

theorem el_small {n : Nat} (h : n ≤ 20) : El (.int (n : Int)) := by
  have all : ∀ m : Fin 21, ((PyData.int ((m.1 : Nat) : Int)).showable && decide ((PyData.int ((m.1 : Nat) : Int)).shown.length ≤ 40) && decide ((PyData.int ((m.1 : Nat) : Int)).depth ≤ 4) && PyData.strOk (PyData.int ((m.1 : Nat) : Int)).shown) = true := by decide +kernel
  exact el_dec (all ⟨n, by omega⟩)
theorem rank_few (ds : List PyData) (d : PyData) : rankK (ds.map kyD) (kyD d) ≤ ds.length := by
  unfold rankK
  have a := len_sof ((ds.map kyD).filter fun x => ltK x (kyD d))
  have b := List.length_filter_le (fun x => ltK x (kyD d)) (ds.map kyD)
  rw [List.length_map] at b
  omega
/-- the told tuple, as data -/
def told (ds : List PyData) : PyData := .tuple ((ranks ds).map PyData.int)
theorem told_fine {ds : List PyData} (few : ds.length ≤ 20) : Fine (told ds) := by
  refine fine_tuple ?_ fun d hd => ?_
  · unfold ranks
    rw [List.length_map, List.length_map]
    omega
  · obtain ⟨i, hi, rfl⟩ := List.mem_map.mp hd
    obtain ⟨e, he, rfl⟩ := List.mem_map.mp hi
    exact el_small (Nat.le_trans (rank_few ds e) few)
theorem ints_dt {H : Hp} : ∀ ns : List Int, DtAll true H (ns.map V.int) (ns.map PyData.int)
  | [] => .nil
  | n :: ns => .cons (.int n) (ints_dt ns)
def out (ds : List PyData) : List Str := match bad ds with
  | some d => [("invalid" : Str), d.shown]
  | none => if uni ds = true then [("told" : Str), (told ds).shown] else [("unlike" : Str)]
theorem out_bad {ds : List PyData} {d : PyData} (h : bad ds = some d) : out ds = [("invalid" : Str), d.shown] := by
  unfold out
  rw [h]
theorem out_uni {ds : List PyData} (h : bad ds = none) (u : uni ds = true) : out ds = [("told" : Str), (told ds).shown] := by
  unfold out
  rw [h]
  exact if_pos u
theorem out_mix {ds : List PyData} (h : bad ds = none) (u : uni ds = false) : out ds = [("unlike" : Str)] := by
  unfold out
  rw [h]
  simp [u]
theorem lt_keys {a b : Key} {H : Hp} {Q : VK} (h : (isIK a ∧ isIK b) ∨ (isSK a ∧ isSK b)) (q : Q (.bl (ltK a b)) H) :
    (rI0 (fun i j => .bl (decide (i < j))) (kV a) (kV b) H Q) ∨ (∃ i j, kV a = .str i ∧ kV b = .str j ∧ Q (.bl (decide (i.cps.toList < j.cps.toList))) H) := by
  rcases h with ⟨⟨i, rfl⟩, ⟨j, rfl⟩⟩ | ⟨⟨i, rfl⟩, ⟨j, rfl⟩⟩
  · exact .inl ⟨i, j, rfl, rfl, q⟩
  · exact .inr ⟨i, j, rfl, rfl, q⟩
theorem one_two {L : List Key} (h : OneK L) {a b : Key} (ha : a ∈ L) (hb : b ∈ L) : (isIK a ∧ isIK b) ∨ (isSK a ∧ isSK b) := h.imp (fun z => ⟨z a ha, z b hb⟩) fun z => ⟨z a ha, z b hb⟩
/-- the law's kinds -/
theorem kindV_val {d : PyData} (k : kd d ≠ 0) : kindV d = .str (kindT d) := by
  cases d with
  | int i => rfl
  | str x =>
    have k2 : kd (.str x) = 2 := by
      by_cases z : allLet x = true ∧ x.length ≤ 12
      · exact kd_yes z
      · exact absurd (kd_no z) k
    unfold kindV
    rw [k2]
    rfl
  | _ => exact absurd rfl k
theorem kindV_non {d : PyData} (k : kd d = 0) : kindV d = .non := by
  unfold kindV
  rw [k]
  rfl
theorem kindV_flat (d : PyData) : flatV (kindV d) = true := by
  by_cases k : kd d = 0
  · rw [kindV_non k]; rfl
  · rw [kindV_val k]; rfl
theorem eqV_kind (d : PyData) : eqV (kindV d) .non = (kd d == 0) := by
  by_cases k : kd d = 0
  · rw [kindV_non k, k]; rfl
  · rw [kindV_val k, show (kd d == 0) = false from by simpa using k]; rfl
theorem in_kinds (ds : List PyData) : inV .non (ds.map kindV) = (bad ds).isSome := by
  unfold inV bad
  rw [List.any_map]
  have e : ((fun y => eqV y .non) ∘ kindV) = fun d => kd d == 0 := funext eqV_kind
  rw [e]
  induction ds with
  | nil => rfl
  | cons d r ih =>
    rw [List.any_cons, List.find?_cons]
    cases kd d == 0
    · exact ih
    · rfl
theorem kinds_map {ds : List PyData} (n : ∀ d ∈ ds, kd d ≠ 0) : ds.map kindV = (kinds ds).map kV := by
  unfold kinds
  rw [List.map_map]
  exact List.map_congr_left fun d m => kindV_val (n d m)
theorem bad_some {ds : List PyData} {d : PyData} (h : bad ds = some d) : ∃ j : Nat, ds[j]? = some d ∧ kd d = 0 ∧ ∀ m e, m < j → ds[m]? = some e → kd e ≠ 0 := by
  unfold bad at h
  rw [List.find?_eq_some_iff_getElem] at h
  obtain ⟨z, j, lt, e, b⟩ := h
  refine ⟨j, by rw [List.getElem?_eq_getElem lt, e], by simpa using z, fun m e lm hm => ?_⟩
  obtain ⟨l2, e2⟩ := List.getElem?_eq_some_iff.mp hm
  have q := b m lm
  rw [e2] at q
  simpa using q
section
variable {P : Program} {w : World} {K : PySem.W.Frag} {mg : Str → Option Value} {base : Heap}
def spDue : Sp := fun vs H Q _ => ∃ a xs ds, vs = [.ref a] ∧ H a = some (.lst xs) ∧ DtAll true H xs ds ∧ (∀ d ∈ ds, Thing d) ∧ ds.length ≤ 20 ∧ ∀ p H', Same H H' → H' p = some (.lst ((out ds).map V.str)) → Q (.ref p) H'
set_option maxHeartbeats 40000000 in
theorem ok_due {f f1 : Addr} {fd d1 : FuncData} (F : Fun K "_law_due" "_law_due" s__law_due f fd) (T : Blt mg)
    (F__law_kind : Fun K "_law_kind" "_law_kind" s__law_kind f1 d1) (b__law_kind : Binds K d1 ["_law_thing"] []) (g__law_kind : mg "_law_kind" = some (.ref f1)) :
    FnG P w K mg base CX0 2 f fd ["_law_some"] spDue := by
  have sc := sc__law_due
  have G__law_kind : FnOk P w K mg base CX0 1 f1 d1 ["_law_thing"] spKind := ok_kind F__law_kind T
  refine okG F sc (fun vs H Q E h => ?_) (fun cdv B up s H vs Q E hr gd h => ?_)
  · obtain ⟨a, xs, ds, rfl, _⟩ := h
    rfl
  · obtain ⟨a, xs, ds, rfl, ha, hd, th, few, q⟩ := h
    have lx : xs.length = ds.length := hd.length
    refine ⟨_, (pss_cons (ps_setLc (i := 1) (own := [("_law_thing", 2)]) (g := gName 2) (tt := tYes) (by rfl) sc.nd rfl rfl (sw_true rfl rfl rfl (by decide +kernel)) (pi_list (pv 0)) (blkOk_by (own := [("_law_thing", 2)]) (N := ["_law_some", "_law_kinds", "_law_thing", "_law_x"]) (sc := defScope s__law_due) (by decide +kernel)) (fun _ _ _ _ _ => pg_name (i := 2) sc.nd rfl (Or.inl rfl)) (fun _ _ _ _ _ => pts_nil) (fun _ _ _ _ _ => (pe_call G__law_kind (hr.mono (by decide)) (by rfl) g__law_kind F__law_kind.kp b__law_kind .nil pass0 (pa_cons (pv 2) pa_nil))))
      (pss_cons (ps_if (pt_cmpR op_in_seq pe_non (pv 1) (by first | exact nomark _ | rfl)) (pss_one (ps_ret (pe_lst (pa_cons pe_str (pa_cons (pe_callB (call_reprH (by have z := room_units hr; exact z) gd) (by rfl) T.n_repr (by decide +kernel) (pa_cons (pe_ix ix_list (pv 0) (pe_bm PySem.F.plainAttrs_list PySem.F.slot_list_index PySem.F.type_list_index mt_index (pv 1) (pa_cons pe_non pa_nil)) (fun _ _ => rfl)) pa_nil)) pa_nil))))) pss_nil)
      (pss_cons (ps_if (pt_cmpR op_gt (pe_callB cr_lenM (by rfl) T.n_len PySem.boot_len (pa_cons (pe_callTy (cr_setOf (by rfl)) (by rfl) T.n_set (by decide +kernel) (pa_cons (pv 1) pa_nil)) pa_nil)) pe_int (nomark _)) (pss_one (ps_ret (pe_lst (pa_cons pe_str pa_nil)))) pss_nil)
      (pss_one (ps_ret (pe_lst (pa_cons pe_str (pa_cons (pe_callB (call_reprH (by have z := room_units hr; exact z) gd) (by rfl) T.n_repr (by decide +kernel) (pa_cons (pe_callTy call_tuple_of (by rfl) T.n_tuple (by decide +kernel) (pa_cons (pe_lc (own := [("_law_thing", 2)]) (g := gName 2) (tt := tYes) (by rfl) sc.nd (pi_list (pv 0)) (blkOk_by (own := [("_law_thing", 2)]) (N := ["_law_some", "_law_kinds", "_law_thing", "_law_x"]) (sc := defScope s__law_due) (by decide +kernel)) (fun _ _ _ _ _ => pg_name (i := 2) sc.nd rfl (Or.inr rfl)) (fun _ _ _ _ _ => pts_nil) (fun _ _ _ _ _ => (pe_callB (show CallR _ (.builtin "len") (rLenM P w) from cr_lenM) (by rfl) T.n_len PySem.boot_len (pa_cons (pe_callTy (show CallR _ (.type "set") (rSetOf K P w) from (cr_setOf (by rfl))) (by rfl) T.n_set (by decide +kernel) (pa_cons (pe_lc (own := [("_law_x", 3)]) (g := gName 3) (by rfl) sc.nd (show PI _ _ _ (iList K _) from (pi_list (pv 0))) (blkOk_by (own := [("_law_x", 3)]) (N := ["_law_some", "_law_kinds", "_law_thing", "_law_x"]) (sc := _) (by kernel_rfl)) (fun _ _ _ _ _ => pg_name (i := 3) sc.nd rfl (Or.inl rfl)) (fun _ _ _ _ _ => pts_one (pt_cmpR (op_or op_lt op_lt_str) (pv 3) (pv 2) (nomark _))) (fun _ _ _ _ _ => (pv 3))) pa_nil)) pa_nil)))) pa_nil)) pa_nil)) pa_nil)))))))), ?_⟩
    refine ⟨_, rfl, a, rfl, ⟨_, SqL.of ha⟩, fun D hD => w_list (xs := xs) (fun i G => Same H G ∧ G D = some (.lst ((ds.map kindV).take i))) ⟨same_new hD, upd_same⟩ (fun i G _ z => SqL.of (z.1 _ _ ha)) ?_ ?_⟩
    · rintro i x G hx ⟨k, at1⟩
      obtain ⟨d, hd2, hdx⟩ := hd.get hx
      refine ⟨rfl, ?_⟩
      refine ⟨_, rfl, x, d, rfl, hdx.same k, th d (List.mem_of_getElem? hd2), fun H1 s1 => ⟨_, s1 _ _ at1, ?_, fun b o e => (upd_ne (ne_of_none e hD)).trans (s1 _ _ (k b o e)), ?_⟩⟩
      · rw [List.length_take, List.length_map, sizeLine_eq]
        omega
      · rw [upd_same, List.take_add_one, List.getElem?_map, hd2]
        rfl
    · rintro G ⟨k, at1⟩
      rw [show xs.length = (ds.map kindV).length from by rw [lx, List.length_map], List.take_length] at at1
      refine ⟨_, rfl, D, _, rfl, .inl (SqL.of at1), rfl, List.all_eq_true.mpr (fun y hy => ?_), _, rfl, ?_⟩
      · obtain ⟨d, _, rfl⟩ := List.mem_map.mp hy
        exact kindV_flat d
      · rw [in_kinds]
        cases hb : bad ds with
        | some d =>
          obtain ⟨j, hj, kz, bf⟩ := bad_some hb
          have jl : j < ds.length := (List.getElem?_eq_some_iff.mp hj).1
          obtain ⟨v, hv⟩ : ∃ v, xs[j]? = some v := ⟨_, List.getElem?_eq_getElem (by omega)⟩
          obtain ⟨d2, hd2, hdv⟩ := hd.get hv
          rw [hj] at hd2
          cases hd2
          have hk : (ds.map kindV)[j]? = some (kindV d) := by rw [List.getElem?_map, hj]; rfl
          refine iteT ?_
          refine ⟨_, rfl, _, rfl, .inl ⟨rfl, _, SqL.of at1⟩, D, _, .non, j, _, rfl, rfl, SqL.of at1, rfl, List.all_eq_true.mpr (fun y hy => ?_), hk, ?_, fun m z' lm hm => ?_, a, xs, _, v, rfl, rfl, SqL.of (k _ _ ha), atI_nat hv, ?_⟩
          · obtain ⟨e, _, rfl⟩ := List.mem_map.mp hy
            exact kindV_flat e
          · rw [eqV_kind, kz]; rfl
          · rw [List.getElem?_map] at hm
            cases he : ds[m]? with
            | none => rw [he] at hm; cases hm
            | some e =>
              rw [he] at hm
              cases hm
              rw [eqV_kind]
              simpa using bf m e lm he
          · dsimp only [tNil]
            refine rep_thing (hdv.same k) (th d (List.mem_of_getElem? hj)).nice ⟨(by show 2 ≤ sizeLine; decide), fun p hp => q p _ (k.trans (same_new hp)) ?_⟩
            rw [upd_same, out_bad hb]
            rfl
        | none =>
          refine iteF ?_
          have nb := bad_none.mp hb
          have xk : xs = (ds.map kyD).map kV := ky_all hd nb
          have lxd : (kinds ds).length = ds.length := List.length_map ..
          have lk : (ds.map kyD).length = ds.length := List.length_map ..
          refine ⟨_, rfl, D, kinds ds, rfl, .inl (by rw [← kinds_map nb]; exact SqL.of at1), by omega, fun A1 hA1 => ?_⟩
          refine ⟨A1, _, rfl, upd_same, _, _, rfl, rfl, _, rfl, ite2 (fun z => ?_) (fun z => ?_)⟩
          · have z2 := of_decide_eq_true z
            refine ⟨(by show 1 ≤ sizeLine; decide), fun p hp => q p _ (k.trans ((same_new hA1).trans (same_new hp))) ?_⟩
            rw [upd_same, out_mix hb (decide_eq_false fun le => by omega)]
            rfl
          · have un : uni ds = true := decide_eq_true (Classical.byContradiction fun y => z (decide_eq_true (by omega)))
            have one := uni_one un nb
            have k0 : ∀ {o : HO}, Same H (upd G A1 o) := fun {o} => k.trans (same_new hA1)
            generalize hG1 : upd G A1 _ = G1
            have k1 : Same H G1 := hG1 ▸ k0
            refine ⟨_, rfl, a, rfl, ⟨_, SqL.of (k1 _ _ ha)⟩, fun D2 hD2 => w_list (xs := xs) (fun i G => Same G1 G ∧ G D2 = some (.lst (((ranks ds).take i).map V.int))) ⟨same_new hD2, upd_same⟩ (fun i G _ z => SqL.of (z.1 _ _ (k1 _ _ ha))) ?_ ?_⟩
            · rintro i x G2 hx ⟨k2, at2⟩
              obtain ⟨d, hd2, hdx⟩ := hd.get hx
              have il : i < ds.length := (List.getElem?_eq_some_iff.mp hd2).1
              have ex : x = kV (kyD d) := ky_dt hdx (nb d (List.mem_of_getElem? hd2))
              subst ex
              refine ⟨rfl, ?_⟩
              refine ⟨_, rfl, a, rfl, ⟨_, SqL.of (k2 _ _ (k1 _ _ ha))⟩, fun D3 hD3 => w_list (xs := xs) (fun m G => Same G2 G ∧ G D3 = some (.lst ((((ds.map kyD).take m).filter fun y => ltK y (kyD d)).map kV))) ⟨same_new hD3, upd_same⟩ (fun m G _ z => SqL.of (z.1 _ _ (k2 _ _ (k1 _ _ ha)))) ?_ ?_⟩
              · rintro m y G3 hy ⟨k3, at3⟩
                obtain ⟨e, he, hey⟩ := hd.get hy
                have ey : y = kV (kyD e) := ky_dt hey (nb e (List.mem_of_getElem? he))
                subst ey
                have tk : (ds.map kyD).take (m + 1) = (ds.map kyD).take m ++ [kyD e] := by
                  rw [List.take_add_one, List.getElem?_map, he]
                  rfl
                have me : kyD e ∈ ds.map kyD := List.mem_map_of_mem (List.mem_of_getElem? he)
                have md : kyD d ∈ ds.map kyD := List.mem_map_of_mem (List.mem_of_getElem? hd2)
                have fl := List.length_filter_le (fun y => ltK y (kyD d)) ((ds.map kyD).take m)
                rw [List.length_take, List.length_map] at fl
                refine ⟨rfl, ?_⟩
                refine ⟨_, rfl, _, rfl, ?_⟩
                dsimp only
                refine lt_keys (one_two one me md) ⟨_, rfl, ite2 (fun t => ?_) (fun t => ?_)⟩
                · refine ⟨_, rfl, _, at3, by rw [List.length_map, sizeLine_eq]; omega, fun b o e => (upd_ne (ne_of_none e hD3)).trans (k3 b o e), ?_⟩
                  rw [upd_same, tk, List.filter_append, List.map_append, List.filter_cons, if_pos t]
                  rfl
                · refine ⟨k3, ?_⟩
                  rw [tk, List.filter_append, List.filter_cons, if_neg t, List.filter_nil, List.append_nil]
                  exact at3
              · rintro G3 ⟨k3, at3⟩
                rw [show xs.length = (ds.map kyD).length from by rw [lx, lk], List.take_length] at at3
                have fl := List.length_filter_le (fun y => ltK y (kyD d)) (ds.map kyD)
                have hr2 : (ranks ds)[i]? = some ((rankK (ds.map kyD) (kyD d) : Nat) : Int) := by
                  unfold ranks
                  rw [List.getElem?_map, hd2]
                  rfl
                refine ⟨D3, (ds.map kyD).filter fun y => ltK y (kyD d), rfl, .inl (SqL.of at3), by omega, fun A2 hA2 => ?_⟩
                have k4 : ∀ {o : HO}, Same G2 (upd G3 A2 o) := fun {o} => k3.trans (same_new hA2)
                refine ⟨A2, _, rfl, upd_same, _, k4 _ _ at2, by rw [List.length_map, List.length_take, sizeLine_eq]; omega, fun b o e => (upd_ne (ne_of_none e hD2)).trans (k4 _ _ (k2 b o e)), ?_⟩
                rw [upd_same, List.take_add_one, hr2, List.map_append]
                rfl
            · rintro G2 ⟨k2, at2⟩
              have lr : (ranks ds).length = ds.length := List.length_map ..
              rw [show xs.length = (ranks ds).length from by rw [lx, lr], List.take_length] at at2
              refine ⟨D2, _, rfl, .inl ⟨SqL.of at2, fun l hl => ?_⟩⟩
              dsimp only [tNil]
              refine rep_thing (d := told ds) (.tup upd_same (ints_dt _)) (told_fine few) ⟨(by show 2 ≤ sizeLine; decide), fun p hp => q p _ (k1.trans (k2.trans ((same_new hl).trans (same_new hp)))) ?_⟩
              rw [upd_same, out_uni hb un]
              rfl
end
end K15

set_option Elab.async false
set_option linter.all false
set_option maxRecDepth 100000
set_option maxHeartbeats 8000000
namespace K15
open PySem PySem.Spec L2 PSG PSS
open PyProof.Rows (IntsAre AllBare)
abbrev s__law_told : Stmt := topS 28
theorem sc__law_told : FnScope ["_law_some", "_law_is_named", "_law_made", "e", "_law_strange"] ["_law_some", "_law_is_named"] (defScope s__law_told) := ⟨rfl, rfl, rfl, by decide +kernel, rfl, by decide +kernel, by decide +kernel⟩

/-- what the classes say of one another -/
structure Cls (K : PySem.W.Frag) (mg : Str → Option Value) (CI CU CP C1 C2 C3 : Addr) : Prop where
  g_PairError : mg "PairError" = some (.ref CP)
  g_InvalidCount : mg "InvalidCount" = some (.ref C1)
  g_InvalidRow : mg "InvalidRow" = some (.ref C2)
  g_InvalidVector : mg "InvalidVector" = some (.ref C3)
  g_InvalidValue : mg "InvalidValue" = some (.ref CI)
  g_Unlike : mg "Unlike" = some (.ref CU)
  xi : PySem.W.XcC K CI
  xu : PySem.W.XcC K CU
  uu : PySem.W.exmOne K (.ref CU) (.ref CU) = some true
  iu : PySem.W.exmOne K (.ref CI) (.ref CU) = some false
  ip : PySem.W.exmOne K (.ref CI) (.ref CP) = some true
  ur : PySem.W.kitOne K (.ref CU) (.type "RuntimeError") = some true
  up : PySem.W.kitOne K (.ref CU) (.ref CP) = some false
  i1 : PySem.W.kitOne K (.ref CI) (.ref C1) = some false
  i2 : PySem.W.kitOne K (.ref CI) (.ref C2) = some false
  i3 : PySem.W.kitOne K (.ref CI) (.ref C3) = some false
  iv : PySem.W.kitOne K (.ref CI) (.type "ValueError") = some true
  ii : PySem.W.kitOne K (.ref CI) (.ref CI) = some true
  no : PySem.W.findIn K (.ref CI) "value" = some none
section
variable {P : Program} {w : World} {K : PySem.W.Frag} {mg : Str → Option Value} {base : Heap}
def spTold (K : PySem.W.Frag) : Sp := fun vs H Q _ => ∃ a xs ds b, vs = [.ref a, .bl b] ∧ (SqL K H a xs ∨ SqT K H a xs) ∧ DtAll true H xs ds ∧ (∀ d ∈ ds, Thing d) ∧ ds.length ≤ 20 ∧ ∀ p H', Same H H' → H' p = some (.lst ((out ds).map V.str)) → Q (.ref p) H'
set_option maxHeartbeats 40000000 in
theorem ok_told {CI CU CP C1 C2 C3 f f1 : Addr} {fd d1 : FuncData} (F : Fun K "_law_told" "_law_told" s__law_told f fd) (T : Blt mg) (Z : Cls K mg CI CU CP C1 C2 C3)
    (F_weak_order_of : Fun K "weak_order_of" "weak_order_of" s_weak_order_of f1 d1) (b_weak_order_of : Binds K d1 ["values"] []) (g_weak_order_of : mg "weak_order_of" = some (.ref f1)) (G_weak_order_of : FnOk P w K mg base (L2.CX P w) 3 f1 d1 ["values"] (spWeak K CI CU))
    (kb_weak_order_of : ∀ (s : Shared) (ws : List Value), K.In s.heap → ws.length = 1 → BindsTo s d1 ⟨[], (["values"] : List Str).zip ws⟩ ((["values"] : List Str).zip ws)) : FnG P w K mg base CX0 4 f fd ["_law_some", "_law_is_named"] (spTold K) := by
  have sc := sc__law_told
  refine okG F sc (fun vs H Q E h => ?_) (fun cdv B up s H vs Q E hr gd h => ?_)
  · obtain ⟨a, xs, ds, b, rfl, _⟩ := h
    rfl
  · obtain ⟨a, xs, ds, b, rfl, hq, hd, th, few, k⟩ := h
    refine ⟨_, (pss_cons (ps_tryCl rfl rfl takes0 (fun W pn xe tk po => (pss_one (ps_set (i := 2) sc.nd rfl (.inl rfl) (pe_lst (pa_cons pe_str (pa_cons (pe_callB (call_reprH (by have z := room_units hr; exact z) gd) (by rfl) T.n_repr (by decide +kernel) (pa_cons (pe_ifExp (pt_val (pv 1)) (pe_callW (ks := ["values"]) G_weak_order_of (hr.mono (by decide)) (by rfl) g_weak_order_of F_weak_order_of.kp kb_weak_order_of rfl (fun σ => passAt tk σ) (pk_cons (pv 0) pk_nil)) (pe_callS G_weak_order_of (hr.mono (by decide)) (by rfl) g_weak_order_of F_weak_order_of.kp b_weak_order_of (fun σ => passAt tk σ) (pa_cons (pv 0) pa_nil))) pa_nil)) pa_nil))))))
      (.named sc.nd (i := 3) rfl rfl (asks_one ⟨by rfl, by decide, .inl Z.g_Unlike⟩) (fun a oe cls d pn hz hf => (pss_one (ps_set (i := 2) sc.nd rfl (.inl rfl) (pe_ifExp (PW.pt (pw_and (pt_val (pe_callB (call_his hz hf) (by rfl) T.n_isinstance (by decide +kernel) (pa_cons (pv 3) (pa_cons (pe_bltn (v := .ty "RuntimeError") (by rfl) T.n_RuntimeError (by decide +kernel) rfl) pa_nil)))) (pw_and1 (pt_not (pt_val (pe_callB (call_his hz hf) (by rfl) T.n_isinstance (by decide +kernel) (pa_cons (pv 3) (pa_cons (pe_glob (v := .ref _) (by rfl) Z.g_PairError rfl) pa_nil)))))))) (pe_lst (pa_cons pe_str pa_nil)) (pe_lst (pa_cons pe_str pa_nil)))))) (.named sc.nd (i := 3) rfl rfl (asks_one ⟨by rfl, by decide, .inl Z.g_PairError⟩) (fun a oe cls d pn hz hf => (pss_cons (ps_set (i := 4) sc.nd rfl (.inl rfl) (pe_lst (pa_cons (pe_callB (call_his hz hf) (by rfl) T.n_isinstance (by decide +kernel) (pa_cons (pv 3) (pa_cons (pe_glob (v := .ref _) (by rfl) Z.g_InvalidCount rfl) pa_nil))) (pa_cons (pe_callB (call_his hz hf) (by rfl) T.n_isinstance (by decide +kernel) (pa_cons (pv 3) (pa_cons (pe_glob (v := .ref _) (by rfl) Z.g_InvalidRow rfl) pa_nil))) (pa_cons (pe_callB (call_his hz hf) (by rfl) T.n_isinstance (by decide +kernel) (pa_cons (pv 3) (pa_cons (pe_glob (v := .ref _) (by rfl) Z.g_InvalidVector rfl) pa_nil))) pa_nil)))))
      (pss_cons (ps_set (i := 2) sc.nd rfl (.inl rfl) (pe_lst (pa_cons pe_str pa_nil)))
      (pss_one (ps_if (PW.pt (pw_and (pt_val (pe_callB (call_his hz hf) (by rfl) T.n_isinstance (by decide +kernel) (pa_cons (pv 3) (pa_cons (pe_glob (v := .ref _) (by rfl) Z.g_InvalidValue rfl) pa_nil)))) (pw_and (pt_val (pe_callB (call_his hz hf) (by rfl) T.n_isinstance (by decide +kernel) (pa_cons (pv 3) (pa_cons (pe_bltn (v := .ty "ValueError") (by rfl) T.n_ValueError (by decide +kernel) rfl) pa_nil)))) (pw_and1 (pt_cmpR (show OpR _ (compareOp .NotIn) (rIn K true) from op_notIn_seq) pe_bl (pv 4) (by first | exact nomark _ | rfl)))))) (pss_one (ps_set (i := 2) sc.nd rfl (.inl rfl) (pe_lst (pa_cons pe_str (pa_cons (pe_callB (call_reprH (by have z := room_units hr; exact z) gd) (by rfl) T.n_repr (by decide +kernel) (pa_cons (pe_hfld hz hf (pv 3)) pa_nil)) pa_nil))))) pss_nil))))) .nil)))
      (pss_one (ps_ret (pv 2)))), ?_⟩
    have give : ∀ {G : Hp} {l : List Str}, Same H G → l = out ds → ∀ q, G q = none → Q (.ref q) (upd G q (.lst (l.map V.str))) := fun s1 el q hq => k q _ (s1.trans (same_new hq)) (by rw [upd_same, el])
    refine ⟨_, rfl, b, rfl, ite2 (fun z => ?_) (fun z => ?_)⟩
    all_goals
      refine ⟨_, rfl, a, xs, ds, rfl, hq, hd, th, few, fun k1 k2 l G H1 s1 hl e1 => ?_, fun k1 k2 o H1 s1 x => ?_, fun v d k1 hv o H1 s1 x => ?_⟩
      · dsimp only [tNil]
        subst e1
        refine rep_thing (d := told ds) (.tup upd_same (ints_dt _)) (told_fine few) ⟨(by show 2 ≤ sizeLine; decide), fun q hq => ⟨_, rfl, give (l := [("told" : Str), (told ds).shown]) (s1.trans (same_new hl)) (out_uni k1 k2).symm q hq⟩⟩
      · refine ⟨true, Z.uu, fun _ y hx => ?_, fun z => Bool.noConfusion z⟩
        refine ⟨_, rfl, CU, [], true, rfl, x, Z.xu, .inl ⟨.ty "RuntimeError", .type "RuntimeError", rfl, .ty _, Z.ur⟩, _, rfl, _, rfl, CU, [], false, rfl, x, Z.xu, .inl ⟨.ref CP, .ref CP, rfl, .own _, Z.up⟩, _, rfl, (by show 1 ≤ sizeLine; decide), fun q hq => ⟨_, rfl, give (l := [("unlike" : Str)]) s1 (out_mix k1 k2).symm q hq⟩⟩
      · refine ⟨false, Z.iu, fun z => Bool.noConfusion z, fun _ => ⟨true, Z.ip, fun _ y hx => ?_, fun z => Bool.noConfusion z⟩⟩
        refine ⟨_, rfl, CI, _, false, rfl, x, Z.xi, .inl ⟨.ref C1, .ref C1, rfl, .own _, Z.i1⟩, ?_⟩
        refine ⟨_, rfl, CI, _, false, rfl, x, Z.xi, .inl ⟨.ref C2, .ref C2, rfl, .own _, Z.i2⟩, ?_⟩
        refine ⟨_, rfl, CI, _, false, rfl, x, Z.xi, .inl ⟨.ref C3, .ref C3, rfl, .own _, Z.i3⟩, ?_⟩
        refine ⟨(by show 3 ≤ sizeLine; decide), fun p hp => ?_⟩
        have sp := s1.trans (same_new (o := .lst [.bl false, .bl false, .bl false]) hp)
        have xp := x.same (same_new (o := .lst [.bl false, .bl false, .bl false]) hp)
        have at_ : upd H1 p (.lst [.bl false, .bl false, .bl false]) p = some (.lst [.bl false, .bl false, .bl false]) := upd_same
        generalize upd H1 p (.lst [.bl false, .bl false, .bl false]) = H2 at sp xp at_ ⊢
        refine ⟨(by show 1 ≤ sizeLine; decide), fun l hl => ?_⟩
        have s3 := sp.trans (same_new (o := .lst [.str "strange"]) hl)
        have x3 := xp.same (same_new (o := .lst [.str "strange"]) hl)
        have at3 := same_new (o := .lst [.str "strange"]) hl _ _ at_
        generalize upd H2 l (.lst [.str "strange"]) = H3 at s3 x3 at3 ⊢
        refine ⟨_, rfl, CI, _, true, rfl, x3, Z.xi, .inl ⟨.ref CI, .ref CI, rfl, .own _, Z.ii⟩, _, rfl, ?_⟩
        refine ⟨_, rfl, CI, _, true, rfl, x3, Z.xi, .inl ⟨.ty "ValueError", .type "ValueError", rfl, .ty _, Z.iv⟩, _, rfl, ?_⟩
        refine ⟨_, rfl, p, _, rfl, .inl (SqL.of at3), rfl, rfl, _, rfl, ?_⟩
        refine iteT ?_
        refine ⟨_, rfl, CI, _, v, rfl, rfl, x3, Z.xi, Z.no, rfl, ?_⟩
        dsimp only [tNil]
        refine rep_thing (hv.same s3) (th d (by
          obtain ⟨j, hj, _⟩ := bad_some k1
          exact List.mem_of_getElem? hj)).nice ⟨(by show 2 ≤ sizeLine; decide), fun q hq => ⟨_, rfl, give (l := [("invalid" : Str), d.shown]) s3 (out_bad k1).symm q hq⟩⟩
end
end K15

set_option Elab.async false
set_option linter.all false
set_option maxRecDepth 100000
set_option maxHeartbeats 8000000
namespace K15
open PySem PySem.Spec L2 PSG PSS
open PyProof.Rows (IntsAre AllBare)
abbrev s__law_stretched : Stmt := topS 31
theorem sc__law_stretched : FnScope ["_law_some", "_law_thing"] ["_law_some"] (defScope s__law_stretched) := ⟨rfl, rfl, rfl, by decide +kernel, rfl, by decide +kernel, by decide +kernel⟩

theorem thing_no {d : PyData} (h : (d.showable && decide (d.shown.length ≤ 1000) && decide (d.depth ≤ 6) && PyData.strOk d.shown) = true) (n : isS d = false) : Thing d := ⟨fine_dec h, fun x e => by
  rw [e] at n
  cases n⟩
theorem thing_str {x : Str} (h : ((PyData.str x).showable && decide ((PyData.str x).shown.length ≤ 1000) && decide ((PyData.str x).depth ≤ 6) && PyData.strOk (PyData.str x).shown) = true) (n : x.length ≤ 100) : Thing (.str x) := ⟨fine_dec h, fun y e => by
  cases e
  exact n⟩
theorem thing_int {i : Int} (h : i.natAbs ≤ 10 ^ 31) : Thing (.int i) := ⟨nice_small h, fun x e => nomatch e⟩
theorem abc_small : ∀ c ∈ abc.cps.toList, c < 16 ^ 8 := by
  have h : (abc.cps.toList.all fun c => decide (c < 16 ^ 8)) = true := by decide +kernel
  intro c hc
  exact of_decide_eq_true (List.all_eq_true.mp h c hc)
theorem abc_shown : ∀ c ∈ abc.cps.toList, ∀ q, q = 34 ∨ q = 39 → ∀ z ∈ Builtin.Str.reprChar q c, z < 0x110000 := by
  have h : (abc.cps.toList.all fun c => [34, 39].all fun q => (Builtin.Str.reprChar q c).all fun z => decide (z < 0x110000)) = true := by decide +kernel
  intro c hc q hq z hz
  have h2 := List.all_eq_true.mp (List.all_eq_true.mp h c hc) q (by rcases hq with rfl | rfl <;> simp)
  exact of_decide_eq_true (List.all_eq_true.mp h2 z hz)
theorem fold_shown (q : Nat) (hq : q = 34 ∨ q = 39) : ∀ (l : List Nat) (acc : Array Nat), (∀ c ∈ l, c ∈ abc.cps.toList) → (∀ z ∈ acc, z < 0x110000) → ∀ z ∈ l.foldl (fun o c => o ++ (Builtin.Str.reprChar q c).toArray) acc, z < 0x110000
  | [], _, _, ha => ha
  | c :: l, acc, hl, ha => fold_shown q hq l _ (fun d hd => hl d (List.mem_cons_of_mem _ hd)) fun z hz => by
    rcases Array.mem_append.mp hz with hz | hz
    · exact ha z hz
    · exact abc_shown c (hl c List.mem_cons_self) q hq z (by simpa using hz)
theorem txt_shown {x : Str} (h : Txt12 x) : PyData.strOk (PyData.str x).shown = true := by
  have hq : reprQuote x = 34 ∨ reprQuote x = 39 := by
    unfold reprQuote
    split
    · exact .inl rfl
    · exact .inr rfl
  have hq2 : reprQuote x < 0x110000 := by omega
  show PyData.strOk (reprText x) = true
  unfold PyData.strOk reprText
  rw [Array.all_eq_true_iff_forall_mem]
  intro z hz
  refine decide_eq_true ?_
  rcases Array.mem_push.mp hz with hz | hz
  · rw [← Array.foldl_toList] at hz
    have first : ∀ y ∈ (#[reprQuote x] : Array Nat), y < 0x110000 := fun y hy => by
      have e : y = reprQuote x := by simpa using hy
      omega
    exact fold_shown _ hq x.cps.toList _ h.abc first z hz
  · omega
theorem thing_txt {x : Str} (h : Txt12 x) : Thing (.str x) := by
  have f := h.few
  refine ⟨⟨rfl, ?_, by simp [PyData.depth], txt_shown h⟩, fun y e => by cases e; omega⟩
  have l := PySem.StrLaws.reprText_len x fun c hc => abc_small c (h.abc c hc)
  show (reprText x).length ≤ 1000
  omega

/-- what the law draws -/
structure Val (d : PyData) : Prop where
  thing : Thing d
  int : ∀ i, d = .int i → i.natAbs ≤ 10 ^ 29
  txt : ∀ x, d = .str x → kd d ≠ 0 → x.length ≤ 3
theorem str_ok {x : Str} (h : allLet x = true) : PyData.strOk x = true := by
  unfold PyData.strOk
  rw [Array.all_eq_true_iff_forall_mem]
  intro c hc
  have m : c ∈ x.cps.toList := by simpa using hc
  unfold allLet lets at h
  rw [List.all_map, List.all_eq_true] at h
  have z : c ∈ abc.cps.toList := by simpa using h c m
  have s : ∀ c ∈ abc.cps.toList, c < 0x110000 := by
    have y : (abc.cps.toList.all fun c => decide (c < 0x110000)) = true := by decide +kernel
    intro c hc
    exact of_decide_eq_true (List.all_eq_true.mp y c hc)
  exact decide_eq_true (s c z)
theorem kd_let {x : Str} (k : kd (.str x) ≠ 0) : allLet x = true ∧ x.length ≤ 12 := Classical.byContradiction fun n => k (kd_no n)
theorem vals_lay : ∀ {ds : List PyData}, (∀ d ∈ ds, kd d ≠ 0) → PyData.canLayAll0 ds = true ∧ PyData.depthAll ds ≤ 1
  | [], _ => by simp [PyData.canLayAll0, PyData.depthAll]
  | d :: r, n => by
    obtain ⟨h1, h2⟩ := vals_lay (ds := r) fun e m => n e (List.mem_cons_of_mem _ m)
    have k := n d List.mem_cons_self
    have one : d.canLay0 = true ∧ d.depth ≤ 1 := by
      cases d with
      | int i => simp [PyData.canLay0, PyData.depth]
      | str x => exact ⟨by simp only [PyData.canLay0]; exact str_ok (kd_let k).1, by simp [PyData.depth]⟩
      | _ => exact absurd rfl k
    refine ⟨by simp only [PyData.canLayAll0, one.1, h1, Bool.and_self], ?_⟩
    have z := one.2
    simp only [PyData.depthAll]
    omega
theorem vals_shaped {ds : List PyData} (n : ∀ d ∈ ds, kd d ≠ 0) : SeqAt.shaped (.list ds) = true := by
  obtain ⟨h1, h2⟩ := vals_lay n
  unfold SeqAt.shaped
  have e : (PyData.list ds).canLay0 = true := by simp only [PyData.canLay0, h1]
  have e2 : (PyData.list ds).depth ≤ 64 := by simp only [PyData.depth]; omega
  rw [e, decide_eq_true e2]
  rfl
theorem vals_dp {K : PySem.W.Frag} {H : Hp} : ∀ {vs : List V} {ds : List PyData}, DtAll true H vs ds → (∀ d ∈ ds, kd d ≠ 0) → DpAll K H vs ds
  | _, _, .nil, _ => .nil
  | _, _, .cons h hs, n => by
    refine .cons ?_ (vals_dp hs fun d m => n d (List.mem_cons_of_mem _ m))
    have k := n _ List.mem_cons_self
    cases h with
    | int i => exact .int i
    | str x => exact .str x
    | _ => exact absurd rfl k
theorem nil_shaped : SeqAt.shaped (.list []) = true := by decide +kernel
theorem eqv_nil (ds : List PyData) : PyData.eqv (.list ds) (.list []) = ds.isEmpty := by
  cases ds <;> simp [PyData.eqv, PyData.eqvAll]
/-- some != [] -/
theorem ne_nil {K : PySem.W.Frag} {H : Hp} {a p : Addr} {xs : List V} {ds : List PyData} {Q : VK} (ha : H a = some (.lst xs)) (hd : DtAll true H xs ds) (n : ∀ d ∈ ds, kd d ≠ 0) (hp : H p = some (.lst [])) (q : Q (.bl (!ds.isEmpty)) H) : rNeD K (.ref a) (.ref p) H Q := by
  refine ⟨.list ds, .list [], .lst (SqL.of ha) (vals_dp hd n), .lst (SqL.of hp) .nil, vals_shaped n, nil_shaped, ?_⟩
  rw [eqv_nil]
  exact q
def stK : Key → Key
  | .inl i => .inl (3 * i - 7)
  | .inr x => .inr ("b" ++ x)
def stD : PyData → PyData
  | .int i => .int (3 * i - 7)
  | .str x => .str ("b" ++ x)
  | d => d
theorem b_list (x : Str) : ("b" ++ x).cps.toList = 98 :: x.cps.toList := by
  have e : ("b" ++ x).cps = ("b" : Str).cps ++ x.cps := rfl
  rw [e, Array.toList_append]
  rfl
theorem b_inj {x y : Str} (h : "b" ++ x = "b" ++ y) : x = y := by
  have e := congrArg (fun z : Str => z.cps.toList) h
  simp only [b_list, List.cons.injEq, true_and] at e
  obtain ⟨⟨a⟩⟩ := x
  obtain ⟨⟨b⟩⟩ := y
  cases e
  rfl
theorem stK_inj : ∀ {a b : Key}, stK a = stK b → a = b
  | .inl i, .inl j, h => by
    have e := Sum.inl.inj h
    rw [show i = j from by omega]
  | .inr x, .inr y, h => by rw [b_inj (Sum.inr.inj h)]
  | .inl i, .inr y, h => by cases h
  | .inr x, .inl j, h => by cases h
theorem stK_lt (a b : Key) : ltK (stK a) (stK b) = ltK a b := by
  cases a <;> cases b <;> simp only [stK, ltK]
  · exact decide_eq_decide.mpr (by omega)
  · rw [b_list, b_list]
    exact decide_eq_decide.mpr (by simp)
theorem ins_map {f : Key → Key} (inj : ∀ a b, f a = f b → a = b) (L : List Key) (k : Key) : ins (L.map f) (f k) = (ins L k).map f := by
  by_cases m : k ∈ L
  · rw [ins_old m, ins_old (List.mem_map_of_mem m)]
  · rw [ins_new m, ins_new fun z => by
      obtain ⟨j, hj, e⟩ := List.mem_map.mp z
      exact m (inj _ _ e ▸ hj), List.map_append]
    rfl
theorem foldl_map {f : Key → Key} (inj : ∀ a b, f a = f b → a = b) : ∀ (ks L : List Key), (ks.map f).foldl ins (L.map f) = (ks.foldl ins L).map f
  | [], L => rfl
  | k :: ks, L => by
    rw [List.map_cons, List.foldl_cons, List.foldl_cons, ins_map inj, foldl_map inj ks]
theorem rank_stretch (ks : List Key) (k : Key) : rankK (ks.map stK) (stK k) = rankK ks k := by
  unfold rankK
  have e : (ks.map stK).filter (fun x => ltK x (stK k)) = (ks.filter fun x => ltK x k).map stK := by
    rw [List.filter_map]
    congr 1
    refine List.filter_congr fun x _ => ?_
    exact stK_lt x k
  rw [e, show sof ((ks.filter fun x => ltK x k).map stK) = (sof (ks.filter fun x => ltK x k)).map stK from foldl_map (fun _ _ => stK_inj) _ [], List.length_map]
theorem ky_st {d : PyData} (k : kd d ≠ 0) : kyD (stD d) = stK (kyD d) := by
  cases d with
  | int i => rfl
  | str x => rfl
  | _ => exact absurd rfl k
theorem let_b {x : Str} (h : allLet x = true) : allLet ("b" ++ x) = true := by
  unfold allLet lets at *
  rw [b_list, List.map_cons, List.all_cons, h]
  have z : (98 ∈ abc.cps.toList) := by decide +kernel
  simp [z]
theorem txt_of {x : Str} (h : allLet x = true) (l : x.length ≤ 12) : Txt12 x := by
  refine ⟨fun c hc => ?_, l⟩
  unfold allLet lets at h
  rw [List.all_map, List.all_eq_true] at h
  simpa using h c hc
theorem st_val {d : PyData} (v : Val d) (k : kd d ≠ 0) : Thing (stD d) ∧ kd (stD d) ≠ 0 ∧ kindT (stD d) = kindT d := by
  cases d with
  | int i =>
    have z := v.int i rfl
    refine ⟨thing_int ?_, fun z => (by cases z), rfl⟩
    have e1 : (10 : Nat) ^ 29 = 100000000000000000000000000000 := by decide +kernel
    have e2 : (10 : Nat) ^ 31 = 10000000000000000000000000000000 := by decide +kernel
    rw [e1] at z
    rw [e2]
    omega
  | str x =>
    have z := v.txt x rfl k
    have l := kd_let k
    have l2 : ("b" ++ x).length ≤ 12 := by
      rw [app_len]
      have e0 : ("b" : Str).length = 1 := rfl
      omega
    refine ⟨thing_txt (txt_of (let_b l.1) l2), fun y => ?_, rfl⟩
    rw [show stD (.str x) = .str ("b" ++ x) from rfl, kd_yes ⟨let_b l.1, l2⟩] at y
    cases y
  | _ => exact absurd rfl k
theorem st_kinds {ds : List PyData} (v : ∀ d ∈ ds, Val d) (n : ∀ d ∈ ds, kd d ≠ 0) : kinds (ds.map stD) = kinds ds := by
  unfold kinds
  rw [List.map_map]
  refine List.map_congr_left fun d m => ?_
  show Sum.inr (kindT (stD d)) = _
  rw [(st_val (v d m) (n d m)).2.2]
theorem st_keys {ds : List PyData} (n : ∀ d ∈ ds, kd d ≠ 0) : (ds.map stD).map kyD = (ds.map kyD).map stK := by
  rw [List.map_map, List.map_map]
  exact List.map_congr_left fun d m => ky_st (n d m)
theorem st_ranks {ds : List PyData} (n : ∀ d ∈ ds, kd d ≠ 0) : ranks (ds.map stD) = ranks ds := by
  unfold ranks
  rw [st_keys n, List.map_map]
  refine List.map_congr_left fun d m => ?_
  show ((rankK ((ds.map kyD).map stK) (kyD (stD d)) : Nat) : Int) = _
  rw [ky_st (n d m), rank_stretch]
theorem st_bad {ds : List PyData} (v : ∀ d ∈ ds, Val d) (n : ∀ d ∈ ds, kd d ≠ 0) : bad (ds.map stD) = none := bad_none.mpr fun e he => by
  obtain ⟨d, m, rfl⟩ := List.mem_map.mp he
  exact (st_val (v d m) (n d m)).2.1
section
variable {P : Program} {w : World} {K : PySem.W.Frag} {mg : Str → Option Value} {base : Heap}
def spStretch : Sp := fun vs H Q _ => ∃ a xs ds, vs = [.ref a] ∧ H a = some (.lst xs) ∧ DtAll true H xs ds ∧ (∀ d ∈ ds, Val d) ∧ (∀ d ∈ ds, kd d ≠ 0) ∧ uni ds = true ∧ ds.length ≤ 20 ∧
  ∀ p ys H', Same H H' → H' p = some (.lst ys) → DtAll true H' ys (ds.map stD) → Q (.ref p) H'
theorem dt_st : ∀ {H : Hp} (ds : List PyData), (∀ d ∈ ds, kd d ≠ 0) → DtAll true H ((ds.map stD).map fun d => kV (kyD d)) (ds.map stD)
  | _, [], _ => .nil
  | _, d :: r, n => by
    refine .cons ?_ (dt_st r fun e m => n e (List.mem_cons_of_mem _ m))
    have k := n d List.mem_cons_self
    cases d with
    | int i => exact .int _
    | str x => exact .str _
    | _ => exact absurd rfl k
theorem ok_stretch {f : Addr} {fd : FuncData} (F : Fun K "_law_stretched" "_law_stretched" s__law_stretched f fd) (T : Blt mg) : FnOk P w K mg base CX0 1 f fd ["_law_some"] spStretch := by
  have sc := sc__law_stretched
  refine F.ok sc (fun vs H Q E h => ?_) (fun cdv A outer s H vs Q E hr h => ?_)
  · obtain ⟨a, xs, ds, rfl, _⟩ := h
    rfl
  · obtain ⟨a, xs, ds, rfl, ha, hd, vl, nb, un, few, q⟩ := h
    have lx : xs.length = ds.length := hd.length
    have one := uni_one un nb
    refine ⟨_, (pss_cons (ps_if (PW.pt (pw_and (pt_cmpR (op_neD hr.units) (pv 0) (pe_lst pa_nil) (nomark _)) (pw_and1 (pt_val (pe_callB call_isi (by rfl) T.n_isinstance (by decide +kernel) (pa_cons (pe_ix ix_list (pv 0) pe_int (fun _ _ => rfl)) (pa_cons (pe_bltn (v := .ty "str") (by rfl) T.n_str (by decide +kernel) rfl) pa_nil))))))) (pss_one (ps_ret (pe_lc (own := [("_law_thing", 1)]) (g := gName 1) (tt := tYes) (by rfl) sc.nd (pi_list (pv 0)) (blkOk_by (own := [("_law_thing", 1)]) (N := ["_law_some", "_law_thing"]) (sc := defScope s__law_stretched) (by decide +kernel)) (fun _ _ _ _ _ => pg_name (i := 1) sc.nd rfl (Or.inl rfl)) (fun _ _ _ _ _ => pts_nil) (fun _ _ _ _ _ => (pe_op op_add_str pe_str (pv 1)))))) pss_nil)
      (pss_one (ps_ret (pe_lc (own := [("_law_thing", 1)]) (g := gName 1) (tt := tYes) (by rfl) sc.nd (pi_list (pv 0)) (blkOk_by (own := [("_law_thing", 1)]) (N := ["_law_some", "_law_thing"]) (sc := defScope s__law_stretched) (by decide +kernel)) (fun _ _ _ _ _ => pg_name (i := 1) sc.nd rfl (Or.inl rfl)) (fun _ _ _ _ _ => pts_nil) (fun _ _ _ _ _ => (pe_op op_sub (pe_op op_mul pe_int (pv 1)) pe_int)))))), ?_⟩
    refine ⟨_, rfl, Nat.zero_le _, fun p hp => ?_⟩
    have k1 := same_new (o := .lst []) hp
    have at1 : upd H p (.lst []) p = some (.lst []) := upd_same
    generalize upd H p (.lst []) = H1 at k1 at1 ⊢
    have made : ∀ {D : Addr} {G : Hp}, Same H1 G → G D = some (.lst ((ds.map stD).map fun d => kV (kyD d))) → Q (.ref D) G := fun kk aa => q _ _ _ (k1.trans kk) aa (dt_st ds nb)
    have nth : ∀ {i : Nat} {d : PyData}, ds[i]? = some d → ((ds.map stD).map fun d => kV (kyD d))[i]? = some (kV (stK (kyD d))) := fun {i d} e => by
      rw [List.getElem?_map, List.getElem?_map, e, ← ky_st (nb d (List.mem_of_getElem? e))]
      rfl
    have ly : ((ds.map stD).map fun d => kV (kyD d)).length = xs.length := by rw [List.length_map, List.length_map, lx]
    refine ne_nil (k1 _ _ ha) (hd.same k1) nb at1 ⟨_, rfl, ?_⟩
    have asI : (∀ k ∈ ds.map kyD, isIK k) → ∀ (i : Nat) (x : V), xs[i]? = some x → ∃ d m, ds[i]? = some d ∧ x = .int m ∧ kyD d = .inl m := fun z i x hx => by
      obtain ⟨d, hd2, hdx⟩ := hd.get hx
      obtain ⟨m, hm⟩ := z _ (List.mem_map_of_mem (List.mem_of_getElem? hd2))
      exact ⟨d, m, hd2, by rw [ky_dt hdx (nb d (List.mem_of_getElem? hd2)), hm]; rfl, hm⟩
    have asS : (∀ k ∈ ds.map kyD, isSK k) → ∀ (i : Nat) (x : V), xs[i]? = some x → ∃ d m, ds[i]? = some d ∧ x = .str m ∧ kyD d = .inr m := fun z i x hx => by
      obtain ⟨d, hd2, hdx⟩ := hd.get hx
      obtain ⟨m, hm⟩ := z _ (List.mem_map_of_mem (List.mem_of_getElem? hd2))
      exact ⟨d, m, hd2, by rw [ky_dt hdx (nb d (List.mem_of_getElem? hd2)), hm]; rfl, hm⟩
    have shorts : ∀ {i : Nat} {d : PyData} {m : Str}, ds[i]? = some d → kyD d = .inr m → m.length ≤ 3 := fun {i d m} e hm => by
      have me := List.mem_of_getElem? e
      cases d with
      | str y =>
        obtain rfl : y = m := Sum.inr.inj hm
        exact (vl _ me).txt y rfl (nb _ me)
      | int i => cases hm
      | _ => exact absurd rfl (nb _ me)
    by_cases emp : ds.isEmpty = true
    · rw [emp]
      refine iteF ?_
      have e0 : ds = [] := List.isEmpty_iff.mp emp
      subst e0
      obtain rfl : xs = [] := List.eq_nil_of_length_eq_zero lx
      refine ⟨_, rfl, a, rfl, ⟨_, SqL.of (k1 _ _ ha)⟩, fun D hD => w_list (xs := []) (fun i G => Same H1 G ∧ G D = some (.lst [])) ⟨same_new hD, upd_same⟩ (fun i G _ z => SqL.of (z.1 _ _ (k1 _ _ ha))) (fun i x G hx => by simp at hx) fun G ⟨kk, aa⟩ => made kk aa⟩
    · rw [show ds.isEmpty = false from by simpa using emp]
      refine iteT ?_
      obtain ⟨d0, h0⟩ : ∃ d, ds[0]? = some d := by
        cases ds with
        | nil => exact absurd rfl emp
        | cons d r => exact ⟨d, rfl⟩
      obtain ⟨x0, hx0⟩ : ∃ x, xs[0]? = some x := ⟨_, List.getElem?_eq_getElem (by
        have z := (List.getElem?_eq_some_iff.mp h0).1
        omega)⟩
      obtain ⟨d1, h1, hd1⟩ := hd.get hx0
      rw [h0] at h1
      cases h1
      refine ⟨_, rfl, a, xs, _, x0, rfl, rfl, SqL.of (k1 _ _ ha), atI_nat (j := 0) hx0, x0, .ty "str", _, _, _, rfl, .ty _, Dt.ty (hd1.same k1), kit_str _, _, rfl, ?_⟩
      rcases one with z | z
      · obtain ⟨d, m, e1, e2, e3⟩ := asI z 0 x0 hx0
        rw [h0] at e1
        cases e1
        have ns : isS d0 = false := by
          cases d0 with
          | str y => cases e3
          | _ => rfl
        rw [ns]
        refine iteF ?_
        refine ⟨_, rfl, a, rfl, ⟨_, SqL.of (k1 _ _ ha)⟩, fun D hD => w_list (xs := xs) (fun i G => Same H1 G ∧ G D = some (.lst (((ds.map stD).map fun d => kV (kyD d)).take i))) ⟨same_new hD, upd_same⟩ (fun i G _ z => SqL.of (z.1 _ _ (k1 _ _ ha))) (fun i x G hx ⟨kk, aa⟩ => ?_) fun G ⟨kk, aa⟩ => made kk (by rw [← ly, List.take_length] at aa; exact aa)⟩
        obtain ⟨d, m, e1, rfl, e3⟩ := asI z i x hx
        refine ⟨rfl, _, rfl, _, _, rfl, rfl, .inl ⟨by decide, by decide⟩, _, _, rfl, rfl, _, aa, ?_, fun b o e => (upd_ne (ne_of_none e hD)).trans (kk b o e), ?_⟩
        · rw [List.length_take, sizeLine_eq]
          omega
        · rw [upd_same, List.take_add_one, nth e1, e3]
          rfl
      · obtain ⟨d, m, e1, e2, e3⟩ := asS z 0 x0 hx0
        rw [h0] at e1
        cases e1
        have ns : isS d0 = true := by
          cases d0 with
          | str y => rfl
          | int i => cases e3
          | _ => exact absurd rfl (nb _ (List.mem_of_getElem? h0))
        rw [ns]
        refine iteT ?_
        refine ⟨_, rfl, a, rfl, ⟨_, SqL.of (k1 _ _ ha)⟩, fun D hD => w_list (xs := xs) (fun i G => Same H1 G ∧ G D = some (.lst (((ds.map stD).map fun d => kV (kyD d)).take i))) ⟨same_new hD, upd_same⟩ (fun i G _ z => SqL.of (z.1 _ _ (k1 _ _ ha))) (fun i x G hx ⟨kk, aa⟩ => ?_) fun G ⟨kk, aa⟩ => made kk (by rw [← ly, List.take_length] at aa; exact aa)⟩
        obtain ⟨d, m, e1, rfl, e3⟩ := asS z i x hx
        have sh := shorts e1 e3
        refine ⟨rfl, _, rfl, _, _, rfl, rfl, ?_, _, aa, ?_, fun b o e => (upd_ne (ne_of_none e hD)).trans (kk b o e), ?_⟩
        · have e0 : ("b" : Str).length = 1 := rfl
          rw [e0, sizeLine_eq]
          omega
        · rw [List.length_take, sizeLine_eq]
          omega
        · rw [upd_same, List.take_add_one, nth e1, e3]
          rfl
end
end K15

set_option Elab.async false
set_option linter.all false
set_option maxRecDepth 100000
set_option maxHeartbeats 8000000
namespace K15
open PySem PySem.Spec L2 PSG PSS
open PyProof.Rows (IntsAre AllBare)
abbrev s__law_signs_right : Stmt := topS 30
theorem sc__law_signs_right : FnScope ["_law_some", "_law_row", "_law_at", "_law_a", "_law_spot", "_law_b", "_law_told_here"] ["_law_some", "_law_row"] (defScope s__law_signs_right) := ⟨rfl, rfl, rfl, by decide +kernel, rfl, by decide +kernel, by decide +kernel⟩

theorem nodup_le : ∀ {l m : List Key}, l.Nodup → (∀ x ∈ l, x ∈ m) → l.length ≤ m.length
  | [], _, _, _ => Nat.zero_le _
  | k :: l, m, n, h => by
    obtain ⟨n1, n2⟩ := List.nodup_cons.mp n
    have ih := nodup_le (l := l) (m := m.filter fun y => !decide (y = k)) n2 fun x hx => by
      refine List.mem_filter.mpr ⟨h x (List.mem_cons_of_mem _ hx), ?_⟩
      have ne : x ≠ k := fun e => n1 (e ▸ hx)
      simp [ne]
    have lt : (m.filter fun y => !decide (y = k)).length < m.length := by
      have le := List.length_filter_le (fun y => !decide (y = k)) m
      refine Nat.lt_of_le_of_ne le fun e => ?_
      have all := List.length_filter_eq_length_iff.mp e k (h k List.mem_cons_self)
      simp at all
    simp only [List.length_cons]
    omega
theorem ltK_trans {a b c : Key} (h : ltK a b = true) (g : ltK b c = true) : ltK a c = true := by
  cases a <;> cases b <;> cases c <;> simp only [ltK, decide_eq_true_eq, Bool.false_eq_true] at h g ⊢
  · omega
  · exact List.lt_trans h g
theorem rank_lt {ks : List Key} {a b : Key} (ha : a ∈ ks) (l : ltK a b = true) : rankK ks a < rankK ks b := by
  unfold rankK
  have n : (a :: sof (ks.filter fun x => ltK x a)).Nodup := List.nodup_cons.mpr ⟨fun m => (by
    have z := (List.mem_filter.mp (mem_sof.mp m)).2
    rw [ltK_irrefl] at z
    cases z), nd_sof _⟩
  have z := nodup_le n (m := sof (ks.filter fun x => ltK x b)) fun x hx => by
    rw [mem_sof]
    rcases List.mem_cons.mp hx with rfl | hx
    · exact List.mem_filter.mpr ⟨ha, l⟩
    · obtain ⟨h1, h2⟩ := List.mem_filter.mp (mem_sof.mp hx)
      exact List.mem_filter.mpr ⟨h1, ltK_trans h2 l⟩
  simp only [List.length_cons] at z
  omega
theorem str_eq {x y : Str} (h : x.cps.toList = y.cps.toList) : x = y := by
  obtain ⟨⟨a⟩⟩ := x
  obtain ⟨⟨b⟩⟩ := y
  cases h
  rfl
theorem ltK_total {a b : Key} (h : (isIK a ∧ isIK b) ∨ (isSK a ∧ isSK b)) (h1 : ltK a b = false) (h2 : ltK b a = false) : a = b := by
  rcases h with ⟨⟨i, rfl⟩, ⟨j, rfl⟩⟩ | ⟨⟨i, rfl⟩, ⟨j, rfl⟩⟩
  · have a1 := of_decide_eq_false h1
    have a2 := of_decide_eq_false h2
    rw [show i = j from by omega]
  · have a1 : ¬ i.cps.toList < j.cps.toList := of_decide_eq_false h1
    have a2 : ¬ j.cps.toList < i.cps.toList := of_decide_eq_false h2
    rw [str_eq (List.le_antisymm (List.not_lt.mp a2) (List.not_lt.mp a1))]
def sgK (a b : Key) : Int := if ltK a b = true then -1 else if ltK b a = true then 1 else 0
theorem sgn_key {d e : PyData} (k : kd d ≠ 0) (k2 : kd d = kd e) : sgn d e = sgK (kyD d) (kyD e) := by
  rcases same_kind k k2 with ⟨i, j, rfl, rfl⟩ | ⟨x, y, rfl, rfl, _⟩
  · unfold sgK
    simp only [sgn, kyD, ltK, decide_eq_true_eq]
  · unfold sgK
    simp only [sgn, kyD, ltK, decide_eq_true_eq]
theorem sgn_rank {ks : List Key} (one : OneK ks) {a b : Key} (ha : a ∈ ks) (hb : b ∈ ks) : sgn (.int ((rankK ks a : Nat) : Int)) (.int ((rankK ks b : Nat) : Int)) = sgK a b := by
  unfold sgK
  show (if ((rankK ks a : Nat) : Int) < ((rankK ks b : Nat) : Int) then (-1 : Int) else if ((rankK ks b : Nat) : Int) < ((rankK ks a : Nat) : Int) then 1 else 0) = _
  by_cases l1 : ltK a b = true
  · have z := rank_lt ha l1
    rw [if_pos l1, if_pos (by omega)]
  · by_cases l2 : ltK b a = true
    · have z := rank_lt hb l2
      rw [if_neg l1, if_pos l2, if_neg (by omega), if_pos (by omega)]
    · have e := ltK_total (one_two one ha hb) (by simpa using l1) (by simpa using l2)
      subst e
      rw [if_neg l1, if_neg l2, if_neg (by omega), if_neg (by omega)]
theorem kd_kind {ds : List PyData} (one : OneK (ds.map kyD)) {d e : PyData} (hd : d ∈ ds) (he : e ∈ ds) (k1 : kd d ≠ 0) (k2 : kd e ≠ 0) : kd d = kd e := by
  have z := one_two one (List.mem_map_of_mem (f := kyD) hd) (List.mem_map_of_mem (f := kyD) he)
  have st : ∀ {x : Str}, kd (.str x) ≠ 0 → kd (.str x) = 2 := fun {x} y => kd_yes (kd_let y)
  cases d with
  | int i => cases e with
    | int j => rfl
    | str y => rcases z with ⟨_, m, h⟩ | ⟨⟨m, h⟩, _⟩ <;> cases h
    | _ => exact absurd rfl k2
  | str x => cases e with
    | int j => rcases z with ⟨⟨m, h⟩, _⟩ | ⟨_, m, h⟩ <;> cases h
    | str y => rw [st k1, st k2]
    | _ => exact absurd rfl k2
  | _ => exact absurd rfl k1
theorem sgK_is (a b : Key) : sgK a b = -1 ∨ sgK a b = 0 ∨ sgK a b = 1 := by
  unfold sgK
  split
  · exact .inl rfl
  · split
    · exact .inr (.inr rfl)
    · exact .inr (.inl rfl)
/-- repr of a list of two signs -/
theorem rep_two {H : Hp} {p : Addr} {s : Int} {Q : VK} (hs : s = -1 ∨ s = 0 ∨ s = 1) (hp : H p = some (.lst [.int s, .int s])) (q : Q (.str (PyData.list [.int s, .int s]).shown) H) : rRep [.ref p] H Q := by
  have f : Fine (.list [.int s, .int s]) := by
    rcases hs with rfl | rfl | rfl <;> exact fine_dec (by decide +kernel)
  exact ⟨.ref p, .list [.int s, .int s], false, rfl, .lst hp (fun z => nomatch z) (.cons (.int _) (.cons (.int _) .nil)), fun z => by simp [PyData.hasDict, PyData.hasDictAll] at z, f.sh, by have := f.ln; rw [sizeLine_eq]; omega, by have := f.dp; omega, q⟩
section
variable {P : Program} {w : World} {K : PySem.W.Frag} {mg : Str → Option Value} {base : Heap}
def spSigns : Sp := fun vs H Q _ => ∃ a r xs ds, vs = [.ref a, .ref r] ∧ H a = some (.lst xs) ∧ DtAll true H xs ds ∧ (∀ d ∈ ds, kd d ≠ 0) ∧ uni ds = true ∧ ds.length ≤ 20 ∧ H r = some (.tup ((ranks ds).map V.int)) ∧ ∀ H', Same H H' → Q (.bl true) H'
theorem ok_signs {f f1 f2 f3 : Addr} {fd d1 d2 d3 : FuncData} (F : Fun K "_law_signs_right" "_law_signs_right" s__law_signs_right f fd) (T : Blt mg)
    (F_pair_sign : Fun K "pair_sign" "pair_sign" s_pair_sign f1 d1) (b_pair_sign : Binds K d1 ["ranks", "first", "second"] []) (g_pair_sign : mg "pair_sign" = some (.ref f1))
    (kb_pair_sign : ∀ (s : Shared) (ws : List Value), K.In s.heap → (flip3 ws).length = 3 → BindsTo s d1 ⟨[], (["second", "first", "ranks"] : List Str).zip ws⟩ ((["ranks", "first", "second"] : List Str).zip (flip3 ws)))
    (F_sign_between : Fun K "sign_between" "sign_between" s_sign_between f2 d2) (b_sign_between : Binds K d2 ["one", "other"] []) (g_sign_between : mg "sign_between" = some (.ref f2))
    (F__law_sign : Fun K "_law_sign" "_law_sign" s__law_sign f3 d3) (b__law_sign : Binds K d3 ["_law_a", "_law_b"] []) (g__law_sign : mg "_law_sign" = some (.ref f3)) :
    FnG P w K mg base CX0 3 f fd ["_law_some", "_law_row"] spSigns := by
  have sc := sc__law_signs_right
  have G_pair_sign : FnOk P w K mg base CX0 2 f1 d1 ["ranks", "first", "second"] spPairSign := ok_pair_sign F_pair_sign F_sign_between b_sign_between g_sign_between
  have G__law_sign : FnOk P w K mg base CX0 1 f3 d3 ["_law_a", "_law_b"] spLawSign := ok_law_sign F__law_sign T
  refine okG F sc (fun vs H Q E h => ?_) (fun cdv B up s H vs Q E hr gd h => ?_)
  · obtain ⟨a, r, xs, ds, rfl, _⟩ := h
    rfl
  · obtain ⟨a, r, xs, ds, rfl, ha, hd, nb, un, few, hrow, q⟩ := h
    have lx : xs.length = ds.length := hd.length
    have one := uni_one un nb
    have rk : ∀ {i : Nat} {d : PyData}, ds[i]? = some d → (ranks ds)[i]? = some ((rankK (ds.map kyD) (kyD d) : Nat) : Int) := fun {i d} e => by
      unfold ranks
      rw [List.getElem?_map, e]
      rfl
    refine ⟨_, (pss_cons (ps_for PassesOwn.never (by rfl) (pi_enum (by rfl) T.n_enumerate (pa_cons (pv 0) pa_nil)) (pg_tup (by rfl) (pgs_cons (pg_name (i := 2) sc.nd rfl (.inl rfl)) (pgs_cons (pg_name (i := 3) sc.nd rfl (.inl rfl)) pgs_nil))) (pss_one (ps_for PassesOwn.never (by rfl) (pi_enum (by rfl) T.n_enumerate (pa_cons (pv 0) pa_nil)) (pg_tup (by rfl) (pgs_cons (pg_name (i := 4) sc.nd rfl (.inl rfl)) (pgs_cons (pg_name (i := 5) sc.nd rfl (.inl rfl)) pgs_nil))) (pss_cons (ps_set (i := 6) sc.nd rfl (.inl rfl) (pe_lst (pa_cons (pe_call G_pair_sign (hr.mono (by decide)) (by rfl) g_pair_sign F_pair_sign.kp b_pair_sign .nil pass0 (pa_cons (pv 1) (pa_cons (pv 2) (pa_cons (pv 4) pa_nil)))) (pa_cons (pe_callR (ks := ["second", "first", "ranks"]) (g := flip3) (gV := flip3) G_pair_sign (hr.mono (by decide)) (by rfl) g_pair_sign F_pair_sign.kp kb_pair_sign flip3_rel pass0At (pk_cons (pv 4) (pk_cons (pv 2) (pk_cons (pv 1) pk_nil)))) pa_nil))))
      (pss_one (ps_if (pt_cmpR op_ne (pe_callB (call_reprH (by have z := room_units hr; exact z) gd) (by rfl) T.n_repr (by decide +kernel) (pa_cons (pv 6) pa_nil)) (pe_callB (call_reprH (by have z := room_units hr; exact z) gd) (by rfl) T.n_repr (by decide +kernel) (pa_cons (pe_op op_rep (pe_lst (pa_cons (pe_call G__law_sign (hr.mono (by decide)) (by rfl) g__law_sign F__law_sign.kp b__law_sign .nil pass0 (pa_cons (pv 3) (pa_cons (pv 5) pa_nil))) pa_nil)) pe_int) pa_nil)) (nomark _)) (pss_one (ps_ret pe_bl)) pss_nil))))))
      (pss_one (ps_ret pe_bl))), ?_⟩
    refine ⟨_, rfl, a, xs, rfl, SqL.of ha, for_enum (xs := xs) (fun i σ G => ∃ y1 y2 y3 y4 y5, σ = [some (.ref a), some (.ref r), y1, y2, y3, y4, y5] ∧ Same H G) ⟨none, none, none, none, none, rfl, Same.refl _⟩ (fun i σ G ⟨_, _, _, _, _, _, k⟩ => SqL.of (k _ _ ha)) ?_ ?_⟩
    · rintro i x σ G T1 hx ⟨y1, y2, y3, y4, y5, rfl, k⟩ hT
      refine ⟨T1, _, rfl, SqT.of upd_same, rfl, _, _, rfl, _, _, rfl, rfl, ?_⟩
      have k1 : Same H (upd G T1 (.tup [.int (i : Nat), x])) := k.trans (same_new hT)
      generalize upd G T1 (.tup [.int (i : Nat), x]) = G1 at k1 ⊢
      refine ⟨_, rfl, a, xs, rfl, SqL.of (k1 _ _ ha), for_enum (xs := xs) (fun j σ G => ∃ y3 y4 y5, σ = [some (.ref a), some (.ref r), some (.int (i : Nat)), some x, y3, y4, y5] ∧ Same H G) ⟨_, _, _, rfl, k1⟩ (fun j σ G ⟨_, _, _, _, k⟩ => SqL.of (k _ _ ha)) ?_ ?_⟩
      · rintro j y σ G2 T2 hy ⟨y3, y4, y5, rfl, k2⟩ hT2
        refine ⟨T2, _, rfl, SqT.of upd_same, rfl, _, _, rfl, _, _, rfl, rfl, ?_⟩
        have k3 : Same H (upd G2 T2 (.tup [.int (j : Nat), y])) := k2.trans (same_new hT2)
        generalize upd G2 T2 (.tup [.int (j : Nat), y]) = G3 at k3 ⊢
        obtain ⟨d, hd2, hdx⟩ := hd.get hx
        obtain ⟨e, he2, hey⟩ := hd.get hy
        have md := List.mem_of_getElem? hd2
        have me := List.mem_of_getElem? he2
        have s1 : sgn (.int ((rankK (ds.map kyD) (kyD d) : Nat) : Int)) (.int ((rankK (ds.map kyD) (kyD e) : Nat) : Int)) = sgK (kyD d) (kyD e) := sgn_rank one (List.mem_map_of_mem md) (List.mem_map_of_mem me)
        have kk := kd_kind one md me (nb d md) (nb e me)
        have s2 : sgn d e = sgK (kyD d) (kyD e) := sgn_key (nb d md) kk
        have small := sgK_is (kyD d) (kyD e)
        refine ⟨_, rfl, _, rfl, _, rfl, r, ranks ds, i, j, _, _, rfl, k3 _ _ hrow, rk hd2, rk he2, ?_⟩
        rw [s1]
        refine ⟨_, rfl, _, rfl, _, rfl, r, ranks ds, i, j, _, _, rfl, k3 _ _ hrow, rk hd2, rk he2, ?_⟩
        rw [s1]
        generalize sgK (kyD d) (kyD e) = sg at s2 small ⊢
        refine ⟨(by show 2 ≤ sizeLine; decide), fun p hp => ?_⟩
        have at4 : upd G3 p (.lst [.int sg, .int sg]) p = some (.lst [.int sg, .int sg]) := upd_same
        have k4 : Same H (upd G3 p (.lst [.int sg, .int sg])) := k3.trans (same_new hp)
        generalize upd G3 p (.lst [.int sg, .int sg]) = G4 at k4 at4 ⊢
        refine ⟨_, rfl, ?_⟩
        dsimp only [tNil]
        refine rep_two small at4 ?_
        refine ⟨_, rfl, _, rfl, x, y, d, e, rfl, hdx.same k4, hey.same k4, nb d md, kk, ?_⟩
        rw [s2]
        refine ⟨(by show 1 ≤ sizeLine; decide), fun p2 hp2 => ⟨p2, 2, _, rfl, rfl, upd_same, by decide, by decide, (by show 1 * 2 ≤ sizeLine; decide), fun p3 hp3 => ?_⟩⟩
        have at5 : upd (upd G4 p2 (.lst [.int sg])) p3 (.lst (List.replicate (2 : Int).toNat [V.int sg]).flatten) p3 = some (.lst [.int sg, .int sg]) := upd_same
        have k5 : Same H (upd (upd G4 p2 (.lst [.int sg])) p3 (.lst (List.replicate (2 : Int).toNat [V.int sg]).flatten)) := k4.trans ((same_new hp2).trans (same_new hp3))
        generalize upd (upd G4 p2 (.lst [.int sg])) p3 (.lst (List.replicate (2 : Int).toNat [V.int sg]).flatten) = G5 at k5 at5 ⊢
        dsimp only [tNil]
        refine rep_two small at5 ⟨rfl, _, rfl, ?_⟩
        refine ite2 (fun z => ?_) (fun z => ?_)
        · simp at z
        · exact ⟨_, _, _, rfl, k5⟩
      · rintro σ G2 ⟨y3, y4, y5, rfl, k2⟩
        exact ⟨_, _, _, _, _, rfl, k2⟩
    · rintro σ G ⟨y1, y2, y3, y4, y5, rfl, k⟩
      exact q G k
end
end K15

set_option Elab.async false
set_option linter.all false
set_option maxRecDepth 100000
set_option maxHeartbeats 8000000
namespace K15
open PySem PySem.Spec L2 PSG PSS
open PyProof.Rows (IntsAre AllBare)
abbrev s__law_fit : Stmt := topS 33
theorem sc__law_fit : FnScope ["_law_a", "_law_b", "_law_c", "_law_x", "_law_y", "_law_z"] ["_law_a", "_law_b", "_law_c"] (defScope s__law_fit) := ⟨rfl, rfl, rfl, by decide +kernel, rfl, by decide +kernel, by decide +kernel⟩

def isSg (i : Int) : Prop := i = -1 ∨ i = 0 ∨ i = 1
def sg2 (i j : Int) : Int := sgn (.int i) (.int j)
def hit (a b c : Int) (x y z : Nat) : Bool := sg2 x y == a && sg2 y z == b && sg2 x z == c
theorem eqv3 (a b c x y z : Int) : PyData.eqv (.tuple [.int x, .int y, .int z]) (.tuple [.int a, .int b, .int c]) = (x == a && y == b && z == c) := by
  simp [PyData.eqv, PyData.eqvAll, Bool.and_assoc]
theorem fits_hit {a b c : Int} (ha : isSg a) (hb : isSg b) (hc : isSg c) : fits a b c = (List.range 3).any fun x => (List.range 3).any fun y => (List.range 3).any fun z => hit a b c x y z := by
  rcases ha with rfl | rfl | rfl <;> rcases hb with rfl | rfl | rfl <;> rcases hc with rfl | rfl | rfl <;> decide +kernel
theorem three_shaped {a b c : Int} : SeqAt.shaped (.tuple [.int a, .int b, .int c]) = true := by
  simp [SeqAt.shaped, PyData.canLay0, PyData.canLayAll0, PyData.depth, PyData.depthAll]
section
variable {P : Program} {w : World} {K : PySem.W.Frag} {mg : Str → Option Value} {base : Heap}
def spLawFit : Sp := fun vs H Q _ => ∃ a b c : Int, vs = [.int a, .int b, .int c] ∧ isSg a ∧ isSg b ∧ isSg c ∧ ∀ H', Same H H' → Q (.bl (fits a b c)) H'
theorem ok_law_fit {f f1 : Addr} {fd d1 : FuncData} (F : Fun K "_law_fit" "_law_fit" s__law_fit f fd) (T : Blt mg)
    (F__law_sign : Fun K "_law_sign" "_law_sign" s__law_sign f1 d1) (b__law_sign : Binds K d1 ["_law_a", "_law_b"] []) (g__law_sign : mg "_law_sign" = some (.ref f1)) :
    FnOk P w K mg base CX0 2 f fd ["_law_a", "_law_b", "_law_c"] spLawFit := by
  have sc := sc__law_fit
  have G__law_sign : FnOk P w K mg base CX0 1 f1 d1 ["_law_a", "_law_b"] spLawSign := ok_law_sign F__law_sign T
  refine F.ok sc (fun vs H Q E h => ?_) (fun cdv A outer s H vs Q E hr h => ?_)
  · obtain ⟨a, b, c, rfl, _⟩ := h
    rfl
  · obtain ⟨a, b, c, rfl, sa, sb, sc2, q⟩ := h
    rw [fits_hit sa sb sc2] at q
    have kint : ∀ i j : Int, kd (.int i) ≠ 0 ∧ kd (.int i) = kd (.int j) := fun i j => ⟨fun z => (nomatch (z : (1 : Nat) = 0)), rfl⟩
    refine ⟨_, (pss_cons (ps_for PassesOwn.never (by rfl) (pi_range1 (by rfl) T.n_range (pa_cons pe_int pa_nil)) (pg_name (i := 3) sc.nd rfl (.inr rfl)) (pss_one (ps_for PassesOwn.never (by rfl) (pi_range1 (by rfl) T.n_range (pa_cons pe_int pa_nil)) (pg_name (i := 4) sc.nd rfl (.inr rfl)) (pss_one (ps_if (pt_val (pe_callB (cr_any rfl) (by rfl) T.n_any (by decide +kernel) (pa_cons (pe_lc (own := [("_law_z", 5)]) (g := gName 5) (tt := tYes) (by rfl) sc.nd (pi_range1 (by rfl) T.n_range (pa_cons pe_int pa_nil)) (blkOk_by (own := [("_law_z", 5)]) (N := ["_law_a", "_law_b", "_law_c", "_law_x", "_law_y", "_law_z"]) (sc := defScope s__law_fit) (by decide +kernel)) (fun _ _ _ _ _ => pg_name (i := 5) sc.nd rfl (Or.inl rfl)) (fun _ _ _ _ _ => pts_nil) (fun _ _ _ _ _ => (pe_cmpR (show OpR _ (compareOp .Eq) (rEqD K) from op_eqD hr.units) (pe_tup (pa_cons (pe_call G__law_sign (hr.mono (by decide)) (by rfl) g__law_sign F__law_sign.kp b__law_sign .nil pass0 (pa_cons (pv 3) (pa_cons (pv 4) pa_nil))) (pa_cons (pe_call G__law_sign (hr.mono (by decide)) (by rfl) g__law_sign F__law_sign.kp b__law_sign .nil pass0 (pa_cons (pv 4) (pa_cons (pv 5) pa_nil))) (pa_cons (pe_call G__law_sign (hr.mono (by decide)) (by rfl) g__law_sign F__law_sign.kp b__law_sign .nil pass0 (pa_cons (pv 3) (pa_cons (pv 5) pa_nil))) pa_nil)))) (pe_tup (pa_cons (pv 0) (pa_cons (pv 1) (pa_cons (pv 2) pa_nil)))) (nomark _)))) pa_nil))) (pss_one (ps_ret pe_bl)) pss_nil)))))
      (pss_one (ps_ret pe_bl))), ?_⟩
    refine ⟨3, rfl, by decide, by decide, for_range (n := 3) (fun i σ G => ∃ y1 y2, σ = [some (.int a), some (.int b), some (.int c), y1, y2, none] ∧ Same H G ∧ ∀ x y z, x < i → y < 3 → z < 3 → hit a b c x y z = false) ⟨none, none, rfl, Same.refl _, fun x y z l => by omega⟩ ?_ ?_⟩
    · rintro i σ G hi ⟨y1, y2, rfl, k, no⟩
      have cast0 : (0 : Int) + (i : Nat) = ((i : Nat) : Int) := by omega
      rw [cast0]
      refine ⟨3, rfl, by decide, by decide, for_range (n := 3) (fun j σ G => ∃ y2, σ = [some (.int a), some (.int b), some (.int c), some (.int (i : Nat)), y2, none] ∧ Same H G ∧ ∀ y z, y < j → z < 3 → hit a b c i y z = false) ⟨_, rfl, k, fun y z l => by omega⟩ ?_ ?_⟩
      · rintro j σ G1 hj ⟨y2, rfl, k1, no1⟩
        have cast1 : (0 : Int) + (j : Nat) = ((j : Nat) : Int) := by omega
        rw [cast1]
        refine ⟨3, rfl, by decide, by decide, fun D hD => w_range (lo := 0) (n := 3) (fun m G => Same G1 G ∧ G D = some (.lst (((List.range m).map fun z => hit a b c i j z).map V.bl))) ⟨same_new hD, upd_same⟩ (fun m G hm ⟨k2, at2⟩ => ?_) (fun G ⟨k2, at2⟩ => ?_)⟩
        · have cast2 : (0 : Int) + (m : Nat) = ((m : Nat) : Int) := by omega
          rw [cast2]
          refine ⟨rfl, ?_⟩
          refine ⟨_, rfl, _, rfl, _, _, _, _, rfl, .int _, .int _, (kint _ 0).1, (kint _ _).2, ?_⟩
          refine ⟨_, rfl, _, rfl, _, _, _, _, rfl, .int _, .int _, (kint _ 0).1, (kint _ _).2, ?_⟩
          refine ⟨_, rfl, _, rfl, _, _, _, _, rfl, .int _, .int _, (kint _ 0).1, (kint _ _).2, ?_⟩
          refine ⟨(by show 3 ≤ sizeLine; decide), fun p hp => ⟨_, rfl, _, rfl, _, rfl, (by show 3 ≤ sizeLine; decide), fun p2 hp2 => ?_⟩⟩
          refine ⟨.tuple [.int (sg2 i j), .int (sg2 j m), .int (sg2 i m)], .tuple [.int a, .int b, .int c], .tup (SqT.of (same_new hp2 _ _ upd_same)) (.cons (.int _) (.cons (.int _) (.cons (.int _) .nil))), .tup (SqT.of upd_same) (.cons (.int _) (.cons (.int _) (.cons (.int _) .nil))), three_shaped, three_shaped, ?_⟩
          rw [eqv3]
          refine ⟨_, same_new hp2 _ _ (same_new hp _ _ at2), ?_, fun x o e => (upd_ne (ne_of_none e hD)).trans (same_new hp2 _ _ (same_new hp _ _ (k2 x o e))), ?_⟩
          · rw [List.length_map, List.length_map, List.length_range, sizeLine_eq]
            omega
          · rw [upd_same, List.range_succ, List.map_append, List.map_append]
            rfl
        · refine ⟨D, _, rfl, SqL.of at2, _, rfl, ite2 (fun t => ?_) (fun t => ?_)⟩
          · have z := q G (k1.trans k2)
            have e : ((List.range 3).any fun x => (List.range 3).any fun y => (List.range 3).any fun z => hit a b c x y z) = true := by
              rw [List.any_eq_true] at t ⊢
              obtain ⟨y, my, hy⟩ := t
              obtain ⟨m, mm, rfl⟩ := List.mem_map.mp my
              exact ⟨i, List.mem_range.mpr hi, List.any_eq_true.mpr ⟨j, List.mem_range.mpr hj, List.any_eq_true.mpr ⟨m, mm, hy⟩⟩⟩
            rw [e] at z
            exact z
          · refine ⟨_, rfl, k1.trans k2, fun y z ly lz => ?_⟩
            by_cases e : y = j
            · subst e
              refine Classical.byContradiction fun n => t (List.any_eq_true.mpr ⟨_, List.mem_map.mpr ⟨z, List.mem_range.mpr lz, rfl⟩, ?_⟩)
              simpa using n
            · exact no1 y z (by omega) lz
      · rintro σ G1 ⟨y2, rfl, k1, no1⟩
        refine ⟨_, _, rfl, k1, fun x y z lx ly lz => ?_⟩
        by_cases e : x = i
        · subst e
          exact no1 y z ly lz
        · exact no x y z (by omega) ly lz
    · rintro σ G ⟨y1, y2, rfl, k, no⟩
      have z := q G k
      have e : ((List.range 3).any fun x => (List.range 3).any fun y => (List.range 3).any fun z => hit a b c x y z) = false := by
        rw [List.any_eq_false]
        intro x hx
        rw [Bool.not_eq_true, List.any_eq_false]
        intro y hy
        rw [Bool.not_eq_true, List.any_eq_false]
        intro m hm
        rw [no x y m (List.mem_range.mp hx) (List.mem_range.mp hy) (List.mem_range.mp hm)]
        simp
      rw [e] at z
      exact z
end
end K15

set_option Elab.async false
set_option linter.all false
set_option maxRecDepth 100000
set_option maxHeartbeats 8000000
namespace K15
open PySem PySem.Spec L2 PSG PSS
open PyProof.Rows (IntsAre AllBare)
abbrev s__law_things : Stmt := topS 25
theorem sc__law_things : FnScope ["_law_rng_here", "_law_is_text", "_law_some", "_law_turn", "_law_odd", "_law_at", "_law_k"] ["_law_rng_here"] (defScope s__law_things) := ⟨rfl, rfl, rfl, by decide +kernel, rfl, by decide +kernel, by decide +kernel⟩

theorem DtAll.take {far : Bool} {H : Hp} : ∀ {vs : List V} {ds : List PyData}, DtAll far H vs ds → ∀ n, DtAll far H (vs.take n) (ds.take n)
  | _, _, .nil, n => by
    rw [List.take_nil, List.take_nil]
    exact .nil
  | _, _, .cons h hs, 0 => .nil
  | _, _, .cons h hs, n + 1 => .cons h (DtAll.take hs n)
theorem DtAll.drop {far : Bool} {H : Hp} : ∀ {vs : List V} {ds : List PyData}, DtAll far H vs ds → ∀ n, DtAll far H (vs.drop n) (ds.drop n)
  | _, _, .nil, n => by
    rw [List.drop_nil, List.drop_nil]
    exact .nil
  | _, _, .cons h hs, 0 => .cons h hs
  | _, _, .cons h hs, n + 1 => DtAll.drop hs n
theorem cut_to (xs : List V) (n : Nat) : cutV xs none (some (n : Int)) = xs.take n := by
  unfold cutV
  rw [HT.sIx_none, HT.sIx_nat, List.drop_zero, Nat.sub_zero]
  by_cases h : n ≤ xs.length
  · rw [Nat.min_eq_left h]
  · rw [Nat.min_eq_right (by omega), List.take_of_length_le (Nat.le_refl _), List.take_of_length_le (by omega)]
theorem cut_from (xs : List V) (n : Nat) : cutV xs (some (n : Int)) none = xs.drop n := by
  unfold cutV
  rw [HT.sIx_none, HT.sIx_nat]
  by_cases h : n ≤ xs.length
  · rw [Nat.min_eq_left h, List.take_of_length_le (by rw [List.length_drop]; omega)]
  · rw [Nat.min_eq_right (by omega), Nat.sub_self, List.take_zero, List.drop_eq_nil_of_le (by omega)]
theorem val_int {i : Int} (h : i.natAbs ≤ 10 ^ 29) : Val (.int i) := ⟨thing_int (Nat.le_trans h (by decide +kernel)), fun j e => (by cases e; exact h), fun x e => (nomatch e)⟩
theorem val_txt {x : Str} (h : Txt12 x) (l : x.length ≤ 3) : Val (.str x) := ⟨thing_txt h, fun j e => (nomatch e), fun y e _ => by cases e; exact l⟩
theorem val_no {d : PyData} (h : (d.showable && decide (d.shown.length ≤ 1000) && decide (d.depth ≤ 6) && PyData.strOk d.shown) = true) (n : isS d = false) (i : isI d = false ∨ ∃ b, d = .bool b) : Val d := ⟨thing_no h n, fun j e => (by
  subst e
  rcases i with i | ⟨b, i⟩ <;> cases i), fun x e => (by
  subst e
  cases n)⟩
theorem val_str {x : Str} (h : ((PyData.str x).showable && decide ((PyData.str x).shown.length ≤ 1000) && decide ((PyData.str x).depth ≤ 6) && PyData.strOk (PyData.str x).shown) = true) (n : x.length ≤ 100) (k : (decide (kd (.str x) = 0) || decide (x.length ≤ 3)) = true) : Val (.str x) := ⟨thing_str h n, fun j e => (nomatch e), fun y e z => by
  cases e
  rw [Bool.or_eq_true, decide_eq_true_eq, decide_eq_true_eq] at k
  exact k.elim (fun a => absurd a z) id⟩
theorem vals_any {X : Hp} : ∀ {us : List V} {es : List PyData}, DtAll true X us es → (∀ e ∈ es, kd e ≠ 0) → ∀ Y, DtAll true Y us es
  | _, _, .nil, _, _ => .nil
  | _, _, .cons h1 h2, n, Y => by
    refine .cons ?_ (vals_any h2 (fun e m => n e (List.mem_cons_of_mem _ m)) Y)
    have k := n _ List.mem_cons_self
    rw [ky_dt h1 k]
    exact dt_ky k
section
variable {P : Program} {w : World} {K : PySem.W.Frag} {mg : Str → Option Value} {base : Heap}
/-- the list of things -/
def spThings : Sp := fun vs H Q _ => ∃ r : Addr, vs = [.ref r] ∧ Rg H r ∧ ∀ p xs ds H', Rg H' r → But r H H' → H' p = some (.lst xs) → DtAll true H' xs ds → (∀ d ∈ ds, Val d) → ds.length ≤ 14 → (p ≠ sysModules ∨ ∀ d ∈ ds, kd d ≠ 0) → Q (.ref p) H'
set_option maxHeartbeats 40000000 in
theorem ok_things {f fD fC fN fT : Addr} {fd fdD fdC fdN fdT : FuncData} (F : Fun K "_law_things" "_law_things" s__law_things f fd) (T : Blt mg)
    (F__law_draw : Fun K "_law_draw" "_law_draw" s__law_draw fD fdD) (b__law_draw : Binds K fdD ["_law_rng_here", "_law_many"] []) (g__law_draw : mg "_law_draw" = some (.ref fD))
    (F__law_choice : Fun K "_law_choice" "_law_choice" s__law_choice fC fdC) (b__law_choice : Binds K fdC ["_law_rng_here", "_law_options"] []) (g__law_choice : mg "_law_choice" = some (.ref fC))
    (F__law_number : Fun K "_law_number" "_law_number" s__law_number fN fdN) (b__law_number : Binds K fdN ["_law_rng_here"] []) (g__law_number : mg "_law_number" = some (.ref fN))
    (F__law_text : Fun K "_law_text" "_law_text" s__law_text fT fdT) (b__law_text : Binds K fdT ["_law_rng_here"] []) (g__law_text : mg "_law_text" = some (.ref fT)) :
    FnOk P w K mg base CX0 3 f fd ["_law_rng_here"] spThings := by
  have sc := sc__law_things
  have G__law_draw : FnOk P w K mg base CX0 1 fD fdD _ spDraw := ok_draw F__law_draw T
  have G__law_choice : FnOk P w K mg base CX0 2 fC fdC _ (spChoice K) := ok_choice F__law_choice T F__law_draw b__law_draw g__law_draw
  have G__law_number : FnOk P w K mg base CX0 2 fN fdN _ spNumber := ok_number F__law_number T F__law_draw b__law_draw g__law_draw
  have G__law_text : FnOk P w K mg base CX0 2 fT fdT _ spText := ok_text F__law_text T F__law_draw b__law_draw g__law_draw
  refine F.ok sc (fun vs H Q E h => ?_) (fun cdv A outer s H vs Q E hr h => ?_)
  · obtain ⟨r, rfl, _⟩ := h
    rfl
  · obtain ⟨r, rfl, hR, q⟩ := h
    have there := hR.some
    have off : ∀ {G : Hp} {p : Addr}, Rg G r → G p = none → p ≠ r := fun {G p} g h z => by
      obtain ⟨o, e⟩ := g.some
      rw [z, e] at h
      cases h
    have unH : ∀ {G : Hp} {p : Addr}, Rg G r → But r H G → G p = none → H p = none := fun {G p} g b h => by
      cases e : H p with
      | none => rfl
      | some o =>
        rw [b p o (off g h) e] at h
        cases h
    refine ⟨_, (pss_cons (ps_set (i := 1) sc.nd rfl (.inr rfl) (pe_cmpR op_eq (pe_call G__law_draw (hr.mono (by decide)) (by rfl) g__law_draw F__law_draw.kp b__law_draw .nil pass0 (pa_cons (pv 0) (pa_cons pe_int pa_nil))) pe_int (nomark _)))
      (pss_cons (ps_set (i := 2) sc.nd rfl (.inr rfl) (pe_lc (own := [("_law_k", 6)]) (g := gName 6) (tt := tYes) (by rfl) sc.nd (pi_range1 (by rfl) T.n_range (pa_cons (pe_call G__law_draw (hr.mono (by decide)) (by rfl) g__law_draw F__law_draw.kp b__law_draw .nil pass0 (pa_cons (pv 0) (pa_cons pe_int pa_nil))) pa_nil)) (blkOk_by (own := [("_law_k", 6)]) (N := ["_law_rng_here", "_law_is_text", "_law_some", "_law_turn", "_law_odd", "_law_at", "_law_k"]) (sc := defScope s__law_things) (by decide +kernel)) (fun _ _ _ _ _ => pg_name (i := 6) sc.nd rfl (Or.inl rfl)) (fun _ _ _ _ _ => pts_nil) (fun _ _ _ _ _ => (pe_ifExp (pt_val (pv 1)) (pe_call G__law_text (hr.mono (by decide)) (by rfl) g__law_text F__law_text.kp b__law_text .nil pass0 (pa_cons (pv 0) pa_nil)) (pe_call G__law_number (hr.mono (by decide)) (by rfl) g__law_number F__law_number.kp b__law_number .nil pass0 (pa_cons (pv 0) pa_nil))))))
      (C8.pss_cut (ps_if (PW.pt (pw_and (pt_cmpR (op_neD hr.units) (pv 2) (pe_lst pa_nil) (nomark _)) (pw_and1 (pt_cmpR op_eq (pe_call G__law_draw (hr.mono (by decide)) (by rfl) g__law_draw F__law_draw.kp b__law_draw .nil pass0 (pa_cons (pv 0) (pa_cons pe_int pa_nil))) pe_int (nomark _))))) (pss_one (ps_set (i := 2) sc.nd rfl (.inr rfl) (pe_op op_cat (pv 2) (pe_lc (own := [("_law_k", 6)]) (g := gName 6) (tt := tYes) (by rfl) sc.nd (pi_range1 (by rfl) T.n_range (pa_cons (pe_callB (call_min2 rfl) (by rfl) T.n_min (by decide +kernel) (pa_cons pe_int (pa_cons (pe_op op_sub pe_int (pe_callB call_len_seq (by rfl) T.n_len PySem.boot_len (pa_cons (pv 2) pa_nil))) pa_nil))) pa_nil)) (blkOk_by (own := [("_law_k", 6)]) (N := ["_law_rng_here", "_law_is_text", "_law_some", "_law_turn", "_law_odd", "_law_at", "_law_k"]) (sc := defScope s__law_things) (by decide +kernel)) (fun _ _ _ _ _ => pg_name (i := 6) sc.nd rfl (Or.inl rfl)) (fun _ _ _ _ _ => pts_nil) (fun _ _ _ _ _ => (pe_call G__law_choice (hr.mono (by decide)) (by rfl) g__law_choice F__law_choice.kp b__law_choice .nil pass0 (pa_cons (pv 0) (pa_cons (pv 2) pa_nil)))))))) pss_nil)
      (pss_cons (ps_for PassesOwn.never (by rfl) (pi_range1 (by rfl) T.n_range (pa_cons (pe_callB (call_max2 rfl) (by rfl) T.n_max (by decide +kernel) (pa_cons pe_int (pa_cons (pe_op op_sub (pe_call G__law_draw (hr.mono (by decide)) (by rfl) g__law_draw F__law_draw.kp b__law_draw .nil pass0 (pa_cons (pv 0) (pa_cons pe_int pa_nil))) pe_int) pa_nil))) pa_nil)) (pg_name (i := 3) sc.nd rfl (.inl rfl)) (pss_cons (ps_set (i := 4) sc.nd rfl (.inl rfl) (pe_lst (pa_cons pe_non (pa_cons pe_bl (pa_cons pe_bl (pa_cons pe_str (pa_cons pe_str (pa_cons pe_str (pa_cons (pe_lstF pa_nil) (pa_cons (pe_tup (pa_cons pe_int pa_nil)) (pa_cons pe_dnewK (pa_cons pe_int (pa_cons pe_str (pa_cons pe_str (pa_cons (pe_un un_neg pe_int) pa_nil)))))))))))))))
      (pss_cons (ps_set (i := 5) sc.nd rfl (.inl rfl) (pe_call G__law_draw (hr.mono (by decide)) (by rfl) g__law_draw F__law_draw.kp b__law_draw .nil pass0 (pa_cons (pv 0) (pa_cons (pe_op op_add (pe_callB call_len_seq (by rfl) T.n_len PySem.boot_len (pa_cons (pv 2) pa_nil)) pe_int) pa_nil))))
      (pss_one (ps_set (i := 2) sc.nd rfl (.inr rfl) (pe_op op_catF (pe_op op_cat (pe_slice sl_list (pv 2) po_none (po_some (pv 5))) (pe_lst (pa_cons (pe_call G__law_choice (hr.mono (by decide)) (by rfl) g__law_choice F__law_choice.kp b__law_choice .nil pass0 (pa_cons (pv 0) (pa_cons (pv 4) pa_nil))) pa_nil))) (pe_slice sl_list (pv 2) (po_some (pv 5)) po_none)))))))
      (pss_one (ps_ret (pv 2))))))), ?_⟩
    refine ⟨_, rfl, r, 2, rfl, hR, by decide, by decide, fun d0 H1 _ _ g1 b1 => ⟨rfl, ?_⟩⟩
    generalize decide (V.int d0 = V.int 1) = B
    refine ⟨_, rfl, r, 13, rfl, g1, by decide, by decide, fun n H2 n0 n1 g2 b2 => ⟨n, rfl, by omega, by omega, fun D hD => ?_⟩⟩
    have b12 := b1.trans b2
    have nD := off g2 hD
    have hDn := unH g2 b12 hD
    refine w_range (lo := 0) (n := n.toNat) (fun i G => Rg G r ∧ But r H G ∧ ∃ xs ds, G D = some (.lst xs) ∧ ds.length = i ∧ DtAll true (news H G) xs ds ∧ ∀ d ∈ ds, Val d ∧ kd d ≠ 0)
      ⟨g2.new hD, b12.trans (But.of (same_new hD)), [], [], upd_same, rfl, .nil, fun d m => by cases m⟩ (fun i G hi ⟨gR, bR, xs, ds, aD, ln, dt, vl⟩ => ?_) (fun G ⟨gR, bR, xs, ds, aD, ln, dt, vl⟩ => ?_)
    · refine ⟨rfl, ?_⟩
      have lx := dt.length
      have putIt : ∀ {G' : Hp} {v : V} {d : PyData}, Rg G' r → But r G G' → (∀ X, Dt true X v d) → Val d → kd d ≠ 0 → ∃ acc, G' D = some (.lst acc) ∧ acc.length < sizeLine ∧ (Rg (upd G' D (.lst (acc ++ [v]))) r ∧ But r H (upd G' D (.lst (acc ++ [v]))) ∧ ∃ xs ds, upd G' D (.lst (acc ++ [v])) D = some (.lst xs) ∧ ds.length = i + 1 ∧ DtAll true (news H (upd G' D (.lst (acc ++ [v])))) xs ds ∧ ∀ d ∈ ds, Val d ∧ kd d ≠ 0) := fun {G' v d} g' b' hv vd kd' => by
        have aD' := b' _ _ nD aD
        have bRR := bR.trans b'
        refine ⟨xs, aD', by rw [lx, sizeLine_eq]; omega, ?_, fun b o nb e => (upd_ne (ne_of_none e hDn)).trans (bRR b o nb e), xs ++ [v], ds ++ [d], upd_same, by rw [List.length_append, ln]; rfl, ?_, fun e he => ?_⟩
        · obtain ⟨x, y, e, z⟩ := g'
          exact ⟨x, y, (upd_ne (Ne.symm nD)).trans e, z⟩
        · exact (vals_any dt (fun e m => (vl e m).2) _).append (.cons (hv _) .nil)
        · rcases List.mem_append.mp he with he | he
          · exact vl e he
          · rw [List.mem_singleton.mp he]
            exact ⟨vd, kd'⟩
      refine ⟨_, rfl, B, rfl, ite2 (fun z => ?_) (fun z => ?_)⟩
      · exact ⟨_, rfl, r, rfl, gR, fun y H' ty l3 g' b' => putIt g' b' (fun X => .str y) (val_txt ty l3) (fun z => by
          have al : allLet y = true := by
            unfold allLet lets
            rw [List.all_map, List.all_eq_true]
            intro c hc
            simpa using ty.abc c hc
          rw [kd_yes ⟨al, ty.few⟩] at z
          cases z)⟩
      · exact ⟨_, rfl, r, rfl, gR, fun m H' hm g' b' => putIt g' b' (fun X => .int m) (val_int hm) (fun z => by cases z)⟩
    · refine ⟨fun σ G => ∃ p xs ds, σ = [some (.ref r), some (.bl B), some (.ref p), none, none, none, none] ∧ Rg G r ∧ But r H G ∧ G p = some (.lst xs) ∧ p ≠ r ∧ DtAll true (news H G) xs ds ∧ (∀ d ∈ ds, Val d ∧ kd d ≠ 0) ∧ ds.length ≤ 12, ?_, ?_⟩
      · have nb : ∀ d ∈ ds, kd d ≠ 0 := fun d m => (vl d m).2
        have lx := dt.length
        have few12 : ds.length ≤ 12 := by omega
        refine ⟨_, rfl, Nat.zero_le _, fun p1 h1 => ?_⟩
        have k1 := same_new (o := .lst []) h1
        have at1 : upd G p1 (.lst []) p1 = some (.lst []) := upd_same
        generalize upd G p1 (.lst []) = G1 at k1 at1 ⊢
        have gR1 := gR.same k1
        have bR1 := bR.trans (But.of (r := r) k1)
        have aD1 := k1 _ _ aD
        refine ne_nil aD1 (vals_any dt nb _) nb at1 ⟨_, rfl, ?_⟩
        by_cases emp : ds.isEmpty = true
        · rw [emp]
          exact iteF ⟨D, xs, ds, rfl, gR1, bR1, aD1, nD, vals_any dt nb _, vl, few12⟩
        · rw [show ds.isEmpty = false from by simpa using emp]
          refine iteT ?_
          have ne : xs ≠ [] := fun e => emp (by
            rw [e] at lx
            exact List.isEmpty_iff.mpr (List.eq_nil_of_length_eq_zero lx.symm))
          refine ⟨_, rfl, r, 2, rfl, gR1, by decide, by decide, fun c G2 _ _ gR2 b2' => ⟨rfl, _, rfl, ite2 (fun e => ?_) (fun e => ?_)⟩⟩
          · have aD2 := b2' _ _ nD aD1
            have bR2 := bR1.trans b2'
            refine ⟨_, rfl, _, rfl, D, _, rfl, .inl (SqL.of aD2), _, _, rfl, rfl, _, _, rfl, ?_⟩
            have hm : ∃ m : Nat, (if (12 : Int) - (xs.length : Nat) < 3 then (12 : Int) - (xs.length : Nat) else 3) = (m : Int) ∧ xs.length + m ≤ 12 := by
              by_cases l : (12 : Int) - (xs.length : Nat) < 3
              · exact ⟨12 - xs.length, by rw [if_pos l]; omega, by omega⟩
              · exact ⟨3, by rw [if_neg l]; rfl, by omega⟩
            obtain ⟨m, em, lm⟩ := hm
            rw [em]
            refine ⟨_, rfl, by omega, by omega, fun D2 hD2 => ?_⟩
            have nD2 := off gR2 hD2
            have hDn2 := unH gR2 bR2 hD2
            have nDD : D ≠ D2 := ne_of_none aD2 hD2
            refine w_range (lo := 0) (n := (m : Int).toNat) (fun i G => Rg G r ∧ But r H G ∧ G D = some (.lst xs) ∧ ∃ ys es, G D2 = some (.lst ys) ∧ es.length = i ∧ (∀ X, DtAll true X ys es) ∧ ∀ d ∈ es, Val d ∧ kd d ≠ 0)
              ⟨gR2.new hD2, bR2.trans (But.of (same_new hD2)), (upd_ne nDD).trans aD2, [], [], upd_same, rfl, fun X => .nil, fun d m => by cases m⟩ (fun i G hi ⟨gR, bR, aD, ys, es, aE, ln, dtE, vlE⟩ => ?_) (fun G ⟨gR, bR, aD, ys, es, aE, ln, dtE, vlE⟩ => ?_)
            · refine ⟨rfl, ?_⟩
              have ly := (dtE G).length
              refine ⟨_, rfl, _, rfl, r, D, xs, rfl, gR, aD, nD, ne, by omega, fun v G' hv g' b' => ?_⟩
              obtain ⟨jj, hjj⟩ := List.mem_iff_getElem?.mp hv
              obtain ⟨dv, hdv, hdd⟩ := dt.get hjj
              have mdv := List.mem_of_getElem? hdv
              have fl : ∀ X, Dt true X v dv := fun X => by
                rw [ky_dt hdd (nb dv mdv)]
                exact dt_ky (nb dv mdv)
              have aE' := b' _ _ nD2 aE
              have bRR := bR.trans b'
              refine ⟨_, aE', by rw [ly, sizeLine_eq]; omega, ?_, fun b o n1 e => (upd_ne (ne_of_none e hDn2)).trans (bRR b o n1 e), (upd_ne nDD).trans (b' _ _ nD aD), ys ++ [v], es ++ [dv], upd_same, by rw [List.length_append, ln]; rfl, fun X => (dtE X).append (.cons (fl X) .nil), fun e he => ?_⟩
              · obtain ⟨x, y, e, z⟩ := g'
                exact ⟨x, y, (upd_ne (Ne.symm nD2)).trans e, z⟩
              · rcases List.mem_append.mp he with he | he
                · exact vlE e he
                · rw [List.mem_singleton.mp he]
                  exact vl dv mdv
            · have ly := (dtE G).length
              refine ⟨D, D2, xs, ys, rfl, rfl, aD, aE, by rw [sizeLine_eq]; omega, fun p hp => ?_⟩
              refine ⟨p, xs ++ ys, ds ++ es, rfl, gR.new hp, bR.trans (But.of (same_new hp)), upd_same, off gR hp, (vals_any dt nb _).append (dtE _), fun d md => ?_, by rw [List.length_append]; omega⟩
              exact (List.mem_append.mp md).elim (vl d) (vlE d)
          · exact ⟨D, xs, ds, rfl, gR2, bR1.trans b2', b2' _ _ nD aD1, nD, vals_any dt nb _, vl, few12⟩
      · rintro σ G ⟨p, xs, ds, rfl, gR, bR, aP, nP, dt, vl, few⟩
        refine ⟨_, rfl, r, 6, rfl, gR, by decide, by decide, fun c G1 c0 c1 g1' b1' => ⟨_, _, rfl, rfl, _, _, rfl, ?_⟩⟩
        have hm : ∃ m : Nat, (if c - 3 > 0 then c - 3 else 0) = (m : Int) ∧ m ≤ 2 := by
          by_cases l : c - 3 > 0
          · exact ⟨(c - 3).toNat, by rw [if_pos l]; omega, by omega⟩
          · exact ⟨0, by rw [if_neg l]; rfl, by omega⟩
        obtain ⟨m, em, lm⟩ := hm
        rw [em]
        refine ⟨_, rfl, by omega, by omega, for_range (n := (m : Int).toNat) (fun i σ G => ∃ p xs ds y3 y4 y5, σ = [some (.ref r), some (.bl B), some (.ref p), y3, y4, y5, none] ∧ Rg G r ∧ But r H G ∧ G p = some (.lst xs) ∧ p ≠ r ∧ DtAll true (news H G) xs ds ∧ (∀ d ∈ ds, Val d) ∧ ds.length ≤ 12 + i ∧ (p ≠ sysModules ∨ ∀ d ∈ ds, kd d ≠ 0))
          ⟨p, xs, ds, none, none, none, rfl, g1', bR.trans b1', b1' _ _ nP aP, nP, vals_any dt (fun d m => (vl d m).2) _, fun d m => (vl d m).1, few, .inr fun d m => (vl d m).2⟩ ?_ ?_⟩
        · rintro i σ G hi ⟨p, xs, ds, y3, y4, y5, rfl, gR, bR, aP, nP, dt, vl, few, _⟩
          have lx := dt.length
          have few14 : ds.length ≤ 13 := by omega
          refine ⟨Nat.zero_le _, fun p1 h1 f1 => ?_⟩
          have a1 : upd G p1 (.lst []) p1 = some (.lst []) := upd_same
          have s1 : Same G (upd G p1 (.lst [])) := same_new h1
          generalize upd G p1 (.lst []) = G1 at a1 s1 ⊢
          refine ⟨(by show 1 ≤ sizeLine; decide), fun p2 h2 => ?_⟩
          have a2 : upd G1 p2 (.tup [.int 1]) p2 = some (.tup [.int 1]) := upd_same
          have s2 : Same G1 (upd G1 p2 (.tup [.int 1])) := same_new h2
          generalize upd G1 p2 (.tup [.int 1]) = G2 at a2 s2 ⊢
          refine fun p3 h3 => ?_
          have a3 : upd G2 p3 (.dK []) p3 = some (.dK []) := upd_same
          have s3 : Same G2 (upd G2 p3 (.dK [])) := same_new h3
          generalize upd G2 p3 (.dK []) = G3 at a3 s3 ⊢
          refine ⟨_, rfl, (by show 13 ≤ sizeLine; decide), fun p4 h4 => ?_⟩
          have a4 : upd G3 p4 (.lst [.non, .bl true, .bl false, .str "A", .str "a b", .str "zzzzzzzzzzzzz", .ref p1, .ref p2, .ref p3, .int 7, .str "a", .str "", .int (-1)]) p4 = some (.lst [.non, .bl true, .bl false, .str "A", .str "a b", .str "zzzzzzzzzzzzz", .ref p1, .ref p2, .ref p3, .int 7, .str "a", .str "", .int (-1)]) := upd_same
          have s4 : Same G3 (upd G3 p4 (.lst [.non, .bl true, .bl false, .str "A", .str "a b", .str "zzzzzzzzzzzzz", .ref p1, .ref p2, .ref p3, .int 7, .str "a", .str "", .int (-1)])) := same_new h4
          generalize upd G3 p4 (.lst [.non, .bl true, .bl false, .str "A", .str "a b", .str "zzzzzzzzzzzzz", .ref p1, .ref p2, .ref p3, .int 7, .str "a", .str "", .int (-1)]) = G4 at a4 s4 ⊢
          have s14 : Same G1 G4 := s2.trans (s3.trans s4)
          have s24 : Same G2 G4 := s3.trans s4
          have s04 : Same G G4 := s1.trans s14
          have n1 := off gR h1
          have n2 := off (gR.same s1) h2
          have n3 := off (gR.same (s1.trans s2)) h3
          have n4 := off (gR.same (s1.trans (s2.trans s3))) h4
          have z1 := unH gR bR h1
          have z2 := unH (gR.same s1) (bR.trans (But.of s1)) h2
          have z3 := unH (gR.same (s1.trans s2)) (bR.trans (But.of (s1.trans s2))) h3
          have gR4 := gR.same s04
          have bR4 := bR.trans (But.of (r := r) s04)
          have aP4 := s04 _ _ aP
          refine ⟨_, rfl, _, rfl, p, _, rfl, .inl (SqL.of aP4), _, _, rfl, rfl, r, _, rfl, gR4, by omega, ?_, fun at_ G5 at0 at1 gR5 b5 => ?_⟩
          · have two200 : (2 : Int) ^ 200 = 1606938044258990275541962092341162602522202993782792835301376 := by decide +kernel
            rw [two200]
            omega
          obtain ⟨n, rfl⟩ := Int.eq_ofNat_of_zero_le at0
          have ln : n ≤ xs.length := by omega
          have aP5 := b5 _ _ nP aP4
          have a45 := b5 _ _ n4 a4
          have bR5 := bR4.trans b5
          have c1' := b5 _ _ n1 (s14 _ _ a1)
          have c2' := b5 _ _ n2 (s24 _ _ a2)
          have c3' := b5 _ _ n3 (s4 _ _ a3)
          have dt5 : DtAll true (news H G5) xs ds := dt.same (news_but ((But.of s04).trans b5) there)
          refine ⟨_, rfl, _, rfl, _, rfl, p, xs, rfl, SqL.of aP5, fun q1 hq1 => ?_⟩
          rw [cut_to]
          have e1 : upd G5 q1 (.lst (xs.take n)) q1 = some (.lst (xs.take n)) := upd_same
          have t1 : Same G5 (upd G5 q1 (.lst (xs.take n))) := same_new hq1
          have m1 := off gR5 hq1
          generalize upd G5 q1 (.lst (xs.take n)) = G6 at e1 t1 ⊢
          refine ⟨_, rfl, _, rfl, r, p4, _, rfl, gR5.same t1, t1 _ _ a45, n4, List.cons_ne_nil _ _, (by show 13 ≤ 1000; decide), fun v G7 hv gR7 b7 => ?_⟩
          have e1 := b7 _ _ m1 e1
          have bR7 := (bR5.trans (But.of (r := r) t1)).trans b7
          have aP7 := b7 _ _ nP (t1 _ _ aP5)
          have c1' := b7 _ _ n1 (t1 _ _ c1')
          have c2' := b7 _ _ n2 (t1 _ _ c2')
          have c3' := b7 _ _ n3 (t1 _ _ c3')
          have dt7 : DtAll true (news H G7) xs ds := dt5.same (news_but ((But.of t1).trans b7) there)
          obtain ⟨d, hvd, vd⟩ : ∃ d, Dt true (news H G7) v d ∧ Val d := by
            simp only [List.mem_cons, List.not_mem_nil, or_false] at hv
            rcases hv with rfl | rfl | rfl | rfl | rfl | rfl | rfl | rfl | rfl | rfl | rfl | rfl | rfl
            · exact ⟨_, .non, val_no (by decide +kernel) rfl (.inl rfl)⟩
            · exact ⟨_, .bl _, val_no (by decide +kernel) rfl (.inr ⟨_, rfl⟩)⟩
            · exact ⟨_, .bl _, val_no (by decide +kernel) rfl (.inr ⟨_, rfl⟩)⟩
            · exact ⟨_, .str _, val_str (by decide +kernel) (by decide +kernel) (by decide +kernel)⟩
            · exact ⟨_, .str _, val_str (by decide +kernel) (by decide +kernel) (by decide +kernel)⟩
            · exact ⟨_, .str _, val_str (by decide +kernel) (by decide +kernel) (by decide +kernel)⟩
            · exact ⟨_, .lst (news_at z1 c1') (fun _ => f1) .nil, val_no (by decide +kernel) rfl (.inl rfl)⟩
            · exact ⟨_, .tup (news_at z2 c2') (.cons (.int 1) .nil), val_no (by decide +kernel) rfl (.inl rfl)⟩
            · exact ⟨_, .dict (kds := []) (news_at z3 c3') .nil, val_no (by decide +kernel) rfl (.inl rfl)⟩
            · exact ⟨_, .int _, val_int (by decide +kernel)⟩
            · exact ⟨_, .str _, val_str (by decide +kernel) (by decide +kernel) (by decide +kernel)⟩
            · exact ⟨_, .str _, val_str (by decide +kernel) (by decide +kernel) (by decide +kernel)⟩
            · exact ⟨_, .int _, val_int (by decide +kernel)⟩
          refine ⟨(by show 1 ≤ sizeLine; decide), fun q2 hq2 => ?_⟩
          have e2 : upd G7 q2 (.lst [v]) q2 = some (.lst [v]) := upd_same
          have t2 : Same G7 (upd G7 q2 (.lst [v])) := same_new hq2
          generalize upd G7 q2 (.lst [v]) = G8 at e2 t2 ⊢
          have lt : (xs.take n).length ≤ 13 := by rw [List.length_take]; omega
          refine ⟨q1, q2, _, _, rfl, rfl, t2 _ _ e1, e2, by rw [sizeLine_eq]; simp only [List.length_cons, List.length_nil]; omega, fun q3 hq3 => ?_⟩
          have e3 : upd G8 q3 (.lst (xs.take n ++ [v])) q3 = some (.lst (xs.take n ++ [v])) := upd_same
          have t3 : Same G8 (upd G8 q3 (.lst (xs.take n ++ [v]))) := same_new hq3
          generalize upd G8 q3 (.lst (xs.take n ++ [v])) = G9 at e3 t3 ⊢
          have t29 := t2.trans t3
          refine ⟨_, rfl, _, rfl, _, rfl, p, xs, rfl, SqL.of (t29 _ _ aP7), fun q4 hq4 => ?_⟩
          rw [cut_from]
          have e4 : upd G9 q4 (.lst (xs.drop n)) q4 = some (.lst (xs.drop n)) := upd_same
          have t4 : Same G9 (upd G9 q4 (.lst (xs.drop n))) := same_new hq4
          generalize upd G9 q4 (.lst (xs.drop n)) = G10 at e4 t4 ⊢
          have ld : (xs.drop n).length ≤ 13 := by rw [List.length_drop]; omega
          have ls : (xs.take n ++ [v]).length ≤ 14 := by rw [List.length_append]; simp only [List.length_cons, List.length_nil]; omega
          refine ⟨q3, q4, _, _, rfl, rfl, t4 _ _ e3, e4, by rw [sizeLine_eq]; omega, fun q5 hq5 f5 => ?_⟩
          have t5 : Same G10 (upd G10 q5 (.lst (xs.take n ++ [v] ++ xs.drop n))) := same_new hq5
          have t25 := (t29.trans t4).trans t5
          have gR10 := gR7.same (t29.trans t4)
          refine ⟨q5, _, ds.take n ++ [d] ++ ds.drop n, _, _, _, rfl, gR10.new hq5, bR7.trans (But.of t25), upd_same, off gR10 hq5, ?_, fun e he => ?_, ?_, .inl f5⟩
          · have h1 := ((DtAll.take dt7 n).append (DtAll.cons hvd .nil)).append (DtAll.drop dt7 n)
            exact h1.same (news_but (But.of t25) there)
          · rcases List.mem_append.mp he with he | he
            · rcases List.mem_append.mp he with he | he
              · exact vl e (List.mem_of_mem_take he)
              · rw [List.mem_singleton.mp he]
                exact vd
            · exact vl e (List.mem_of_mem_drop he)
          · rw [List.length_append, List.length_append, List.length_take, List.length_drop]
            simp only [List.length_cons, List.length_nil]
            omega
        · rintro σ G ⟨p, xs, ds, y3, y4, y5, rfl, gR, bR, aP, nP, dt, vl, few, ok⟩
          exact ⟨_, rfl, q p xs ds G gR bR aP (dt.same news_sub) vl (by omega) ok⟩
end
end K15

set_option Elab.async false
set_option linter.all false
set_option maxRecDepth 100000
set_option maxHeartbeats 8000000
namespace K15
open PySem PySem.Spec L2 PSG PSS
open PyProof.Rows (IntsAre AllBare)
abbrev s__law_right : Stmt := topS 32
theorem sc__law_right : FnScope ["_law_some", "_law_is_named", "_law_handed", "_law_due_here", "_law_row"] ["_law_some", "_law_is_named"] (defScope s__law_right) := ⟨rfl, rfl, rfl, by decide +kernel, rfl, by decide +kernel, by decide +kernel⟩

theorem join_le : ∀ ts : List Str, (∀ t ∈ ts, t.length ≤ 1000) → (Str.join ", " ts).length ≤ 1002 * ts.length
  | [], _ => Nat.zero_le _
  | [y], h => by
    have z := h y List.mem_cons_self
    show y.length ≤ 1002 * 1
    omega
  | x :: y :: r, h => by
    have ih := join_le (y :: r) fun z m => h z (List.mem_cons_of_mem _ m)
    have hx := h x List.mem_cons_self
    have e : Str.join ", " (x :: y :: r) = x ++ ", " ++ Str.join ", " (y :: r) := rfl
    have e0 : (", " : Str).length = 2 := rfl
    rw [e, app_len, app_len, e0]
    simp only [List.length_cons] at ih ⊢
    omega
theorem fines_all : ∀ {ds : List PyData}, (∀ d ∈ ds, Fine d) → PyData.showableAll ds = true ∧ (∀ t ∈ PyData.shownAll ds, t.length ≤ 1000) ∧ PyData.depthAll ds ≤ 6 ∧ (PyData.shownAll ds).length = ds.length
  | [], _ => by simp [PyData.showableAll, PyData.shownAll, PyData.depthAll]
  | d :: ds, h => by
    obtain ⟨h1, h2, h3, h4⟩ := fines_all (ds := ds) fun x hx => h x (List.mem_cons_of_mem _ hx)
    have n := h d List.mem_cons_self
    have n3 := n.dp
    refine ⟨by simp only [PyData.showableAll, n.sh, h1, Bool.and_self], fun t ht => ?_, ?_, by simp only [PyData.shownAll, List.length_cons, h4]⟩
    · simp only [PyData.shownAll, List.mem_cons] at ht
      rcases ht with rfl | ht
      · exact n.ln
      · exact h2 t ht
    · simp only [PyData.depthAll]
      omega
theorem rep_list {H : Hp} {p : Addr} {xs : List V} {ds : List PyData} {Q : VK} (hp : H p = some (.lst xs)) (hd : DtAll true H xs ds) (v : ∀ d ∈ ds, Val d) (few : ds.length ≤ 20) (far : p ≠ sysModules ∨ ∀ d ∈ ds, kd d ≠ 0) (q : Q (.str (PyData.list ds).shown) H) : rRep [.ref p] H Q := by
  obtain ⟨h1, h2, h3, h4⟩ := fines_all fun d m => (v d m).thing.nice
  have ln : (PyData.list ds).shown.length ≤ sizeLine := by
    rw [PyData.shown_list, app_len, app_len, sizeLine_eq]
    have z := join_le _ h2
    have e0 : ("[" : Str).length = 1 := rfl
    have e1 : ("]" : Str).length = 1 := rfl
    rw [e0, e1]
    omega
  have dp : (PyData.list ds).depth ≤ 60 := by
    simp only [PyData.depth]
    omega
  have sh : (PyData.list ds).showable = true := by simpa only [PyData.showable] using h1
  rcases far with far | far
  · exact ⟨.ref p, .list ds, true, rfl, .lst hp (fun _ => far) hd, fun _ => .inl rfl, sh, ln, dp, q⟩
  · have low : ∀ {us : List V} {es : List PyData}, DtAll true H us es → (∀ e ∈ es, kd e ≠ 0) → DtAll false H us es ∧ PyData.hasDictAll es = false := by
      intro us es h
      induction es generalizing us with
      | nil => cases h; exact fun _ => ⟨.nil, rfl⟩
      | cons e es ih =>
        cases h with
        | cons h1 h2 =>
          intro n
          obtain ⟨i1, i2⟩ := ih h2 fun e m => n e (List.mem_cons_of_mem _ m)
          have k := n _ List.mem_cons_self
          cases h1 with
          | int i => exact ⟨.cons (.int i) i1, by simp [PyData.hasDictAll, PyData.hasDict, i2]⟩
          | str x => exact ⟨.cons (.str x) i1, by simp [PyData.hasDictAll, PyData.hasDict, i2]⟩
          | _ => exact absurd rfl k
    obtain ⟨l1, l2⟩ := low hd far
    exact ⟨.ref p, .list ds, false, rfl, .lst hp (fun z => nomatch z) l1, fun z => (by
      simp only [PyData.hasDict] at z
      rw [l2] at z
      cases z), sh, ln, dp, q⟩
theorem out_ok {ds : List PyData} (v : ∀ d ∈ ds, Val d) (few : ds.length ≤ 20) : ∀ x ∈ out ds, PyData.strOk x = true := by
  have c1 : PyData.strOk "invalid" = true := by decide +kernel
  have c2 : PyData.strOk "unlike" = true := by decide +kernel
  have c3 : PyData.strOk "told" = true := by decide +kernel
  intro x hx
  cases hb : bad ds with
  | some d =>
    rw [out_bad hb] at hx
    obtain ⟨j, hj, _⟩ := bad_some hb
    simp only [List.mem_cons, List.not_mem_nil, or_false] at hx
    rcases hx with rfl | rfl
    · exact c1
    · exact (v d (List.mem_of_getElem? hj)).thing.nice.ok
  | none =>
    cases hu : uni ds with
    | true =>
      rw [out_uni hb hu] at hx
      simp only [List.mem_cons, List.not_mem_nil, or_false] at hx
      rcases hx with rfl | rfl
      · exact c3
      · exact (told_fine few).ok
    | false =>
      rw [out_mix hb hu] at hx
      simp only [List.mem_cons, List.not_mem_nil, or_false] at hx
      rw [hx]
      exact c2
theorem ints_dp {K : PySem.W.Frag} {H : Hp} : ∀ ns : List Int, DpAll K H (ns.map V.int) (ns.map PyData.int)
  | [] => .nil
  | n :: ns => .cons (.int n) (ints_dp ns)
theorem ints_lay : ∀ ns : List Int, PyData.canLayAll0 (ns.map PyData.int) = true ∧ PyData.depthAll (ns.map PyData.int) ≤ 1
  | [] => by simp [PyData.canLayAll0, PyData.depthAll]
  | n :: ns => by
    obtain ⟨h1, h2⟩ := ints_lay ns
    refine ⟨by simp [PyData.canLayAll0, PyData.canLay0, h1], ?_⟩
    simp only [List.map_cons, PyData.depthAll, PyData.depth]
    omega
/-- two tuples of the same numbers are not unlike -/
theorem ne_tups {K : PySem.W.Frag} {H : Hp} {a p : Addr} {ns : List Int} {Q : VK} (h1 : H a = some (.tup (ns.map V.int))) (h2 : H p = some (.tup (ns.map V.int))) (q : Q (.bl false) H) : rNeD K (.ref a) (.ref p) H Q := by
  obtain ⟨l1, l2⟩ := ints_lay ns
  have lay : (PyData.tuple (ns.map PyData.int)).canLay0 = true := by simp only [PyData.canLay0, l1]
  have sh : SeqAt.shaped (.tuple (ns.map PyData.int)) = true := by
    unfold SeqAt.shaped
    have e2 : (PyData.tuple (ns.map PyData.int)).depth ≤ 64 := by simp only [PyData.depth]; omega
    rw [lay, decide_eq_true e2]
    rfl
  refine ⟨_, _, .tup (SqT.of h1) (ints_dp ns), .tup (SqT.of h2) (ints_dp ns), sh, sh, ?_⟩
  rw [PySem.SeqAt.eqv_refl _ lay]
  exact q
section
variable {P : Program} {w : World} {K : PySem.W.Frag} {mg : Str → Option Value} {base : Heap}
def spRight : Sp := fun vs H Q _ => ∃ p xs ds b, vs = [.ref p, .bl b] ∧ H p = some (.lst xs) ∧ DtAll true H xs ds ∧ (∀ d ∈ ds, Val d) ∧ ds.length ≤ 14 ∧ (p ≠ sysModules ∨ ∀ d ∈ ds, kd d ≠ 0) ∧ ∀ H', Same H H' → Q (.bl true) H'
theorem ok_right {CI CU f f1 f2 f3 f4 f5 : Addr} {fd d1 d2 d3 d4 d5 : FuncData} (F : Fun K "_law_right" "_law_right" s__law_right f fd) (T : Blt mg)
    (F__law_due : Fun K "_law_due" "_law_due" s__law_due f1 d1) (b__law_due : Binds K d1 ["_law_some"] []) (g__law_due : mg "_law_due" = some (.ref f1)) (G__law_due : FnG P w K mg base CX0 2 f1 d1 ["_law_some"] spDue)
    (F__law_told : Fun K "_law_told" "_law_told" s__law_told f2 d2) (b__law_told : Binds K d2 ["_law_some", "_law_is_named"] []) (g__law_told : mg "_law_told" = some (.ref f2)) (G__law_told : FnG P w K mg base CX0 4 f2 d2 ["_law_some", "_law_is_named"] (spTold K))
    (F_weak_order_of : Fun K "weak_order_of" "weak_order_of" s_weak_order_of f3 d3) (b_weak_order_of : Binds K d3 ["values"] []) (g_weak_order_of : mg "weak_order_of" = some (.ref f3)) (G_weak_order_of : FnOk P w K mg base (L2.CX P w) 3 f3 d3 ["values"] (spWeak K CI CU))
    (F__law_stretched : Fun K "_law_stretched" "_law_stretched" s__law_stretched f4 d4) (b__law_stretched : Binds K d4 ["_law_some"] []) (g__law_stretched : mg "_law_stretched" = some (.ref f4))
    (F__law_signs_right : Fun K "_law_signs_right" "_law_signs_right" s__law_signs_right f5 d5) (b__law_signs_right : Binds K d5 ["_law_some", "_law_row"] []) (g__law_signs_right : mg "_law_signs_right" = some (.ref f5)) (G__law_signs_right : FnG P w K mg base CX0 3 f5 d5 ["_law_some", "_law_row"] spSigns) :
    FnG P w K mg base CX0 5 f fd ["_law_some", "_law_is_named"] spRight := by
  have sc := sc__law_right
  have G__law_stretched : FnOk P w K mg base CX0 1 f4 d4 ["_law_some"] spStretch := ok_stretch F__law_stretched T
  refine okG F sc (fun vs H Q E h => ?_) (fun cdv B up s H vs Q E hr gd h => ?_)
  · obtain ⟨p, xs, ds, b, rfl, _⟩ := h
    rfl
  · obtain ⟨p, xs, ds, b, rfl, hp, hd, vl, few, far, q⟩ := h
    have th : ∀ d ∈ ds, Thing d := fun d m => (vl d m).thing
    refine ⟨_, (pss_cons (ps_set (i := 2) sc.nd rfl (.inl rfl) (pe_ix ix_list (pe_lst (pa_cons (pe_callTy call_list_ofF (by rfl) T.n_list (by decide +kernel) (pa_cons (pv 0) pa_nil)) (pa_cons (pe_callTy call_tuple_of (by rfl) T.n_tuple (by decide +kernel) (pa_cons (pv 0) pa_nil)) pa_nil))) (pe_callTy call_int1 (by rfl) T.n_int (by decide +kernel) (pa_cons (pv 1) pa_nil)) (fun _ _ => rfl)))
      (pss_cons (ps_set (i := 3) sc.nd rfl (.inl rfl) (pe_callG G__law_due (hr.mono (by decide)) gd (by rfl) g__law_due F__law_due.kp b__law_due .nil pass0 (pa_cons (pv 0) pa_nil)))
      (pss_cons (ps_if (PW.pt (pw_or (pt_cmpR (op_neD hr.units) (pe_callG G__law_told (hr.mono (by decide)) gd (by rfl) g__law_told F__law_told.kp b__law_told .nil pass0 (pa_cons (pv 2) (pa_cons (pv 1) pa_nil))) (pv 3) (nomark _)) (pw_or1 (pt_cmpR op_ne (pe_callB (call_reprH (by have z := room_units hr; exact z) gd) (by rfl) T.n_repr (by decide +kernel) (pa_cons (pe_callTy call_list_ofF (by rfl) T.n_list (by decide +kernel) (pa_cons (pv 2) pa_nil)) pa_nil)) (pe_callB (call_reprH (by have z := room_units hr; exact z) gd) (by rfl) T.n_repr (by decide +kernel) (pa_cons (pv 0) pa_nil)) (nomark _))))) (pss_one (ps_ret pe_bl)) pss_nil)
      (pss_cons (ps_if (pt_cmpR op_ne (pe_ix ix_list (pv 3) pe_int (fun _ _ => rfl)) pe_str (nomark _)) (pss_one (ps_ret pe_bl)) pss_nil)
      (pss_cons (ps_set (i := 4) sc.nd rfl (.inl rfl) (pe_callS G_weak_order_of (hr.mono (by decide)) (by rfl) g_weak_order_of F_weak_order_of.kp b_weak_order_of (fun σ => passAt takes0 σ) (pa_cons (pv 0) pa_nil)))
      (pss_cons (ps_if (pt_cmpR (op_neD hr.units) (pe_callS G_weak_order_of (hr.mono (by decide)) (by rfl) g_weak_order_of F_weak_order_of.kp b_weak_order_of (fun σ => passAt takes0 σ) (pa_cons (pe_call G__law_stretched (hr.mono (by decide)) (by rfl) g__law_stretched F__law_stretched.kp b__law_stretched .nil pass0 (pa_cons (pv 0) pa_nil)) pa_nil)) (pv 4) (nomark _)) (pss_one (ps_ret pe_bl)) pss_nil)
      (pss_one (ps_ret (pe_callG G__law_signs_right (hr.mono (by decide)) gd (by rfl) g__law_signs_right F__law_signs_right.kp b__law_signs_right .nil pass0 (pa_cons (pv 0) (pa_cons (pv 4) pa_nil))))))))))), ?_⟩
    refine ⟨_, rfl, p, xs, rfl, .inl (SqL.of hp), fun l hl fl => ?_⟩
    have e1 : upd H l (.lst xs) l = some (.lst xs) := upd_same
    have s1 : Same H (upd H l (.lst xs)) := same_new hl
    generalize upd H l (.lst xs) = H1 at e1 s1 ⊢
    refine ⟨_, rfl, p, xs, rfl, .inl ⟨SqL.of (s1 _ _ hp), fun u hu => ?_⟩⟩
    have e2 : upd H1 u (.tup xs) u = some (.tup xs) := upd_same
    have s2 : Same H1 (upd H1 u (.tup xs)) := same_new hu
    generalize upd H1 u (.tup xs) = H2 at e2 s2 ⊢
    refine ⟨(by show 2 ≤ sizeLine; decide), fun m hm => ?_⟩
    have e3 : upd H2 m (.lst [.ref l, .ref u]) m = some (.lst [.ref l, .ref u]) := upd_same
    have s3 : Same H2 (upd H2 m (.lst [.ref l, .ref u])) := same_new hm
    generalize upd H2 m (.lst [.ref l, .ref u]) = H3 at e3 s3 ⊢
    have s03 := s1.trans (s2.trans s3)
    obtain ⟨h, hq, ix⟩ : ∃ h, (SqL K H3 h xs ∨ SqT K H3 h xs) ∧ atI [V.ref l, V.ref u] (if b = true then 1 else 0) = some (.ref h) := by
      cases b with
      | false => exact ⟨l, .inl (SqL.of (s3 _ _ (s2 _ _ e1))), atI_nat (j := 0) rfl⟩
      | true => exact ⟨u, .inr (SqT.of (s3 _ _ e2)), atI_nat (j := 1) rfl⟩
    refine ⟨_, rfl, .inr ⟨b, rfl, m, _, _, _, rfl, rfl, SqL.of e3, ix, ?_⟩⟩
    refine ⟨_, rfl, p, xs, ds, rfl, s03 _ _ hp, hd.same s03, th, by omega, fun du H4 s4 at4 => ?_⟩
    have hq4 : SqL K H4 h xs ∨ SqT K H4 h xs := hq.imp (fun z => s4.seq z) fun z => same_tup s4 z
    have s04 := s03.trans s4
    refine ⟨_, rfl, _, rfl, h, xs, ds, b, rfl, hq4, hd.same s04, th, by omega, fun to H5 s5 at5 => ⟨_, rfl, ne_strs (out_ok vl (by omega)) at5 (s5 _ _ at4) ⟨_, rfl, ?_⟩⟩⟩
    refine iteF ?_
    have s05 := s04.trans s5
    have hq5 : SqL K H5 h xs ∨ SqT K H5 h xs := hq4.imp (fun z => s5.seq z) fun z => same_tup s5 z
    refine ⟨_, rfl, h, xs, rfl, hq5, fun l2 hl2 fl2 => ?_⟩
    have e6 : upd H5 l2 (.lst xs) l2 = some (.lst xs) := upd_same
    have s6 : Same H5 (upd H5 l2 (.lst xs)) := same_new hl2
    generalize upd H5 l2 (.lst xs) = H6 at e6 s6 ⊢
    have s06 := s05.trans s6
    dsimp only [tNil]
    refine rep_list e6 (hd.same s06) vl (by omega) (.inl fl2) ?_
    refine ⟨_, rfl, ?_⟩
    dsimp only [tNil]
    refine rep_list (s06 _ _ hp) (hd.same s06) vl (by omega) far ⟨rfl, _, rfl, ?_⟩
    refine ite2 (fun z => ?_) (fun z => ?_)
    · simp at z
    have at6 := s6 _ _ (s5 _ _ at4)
    have first : ∀ {x : Str} {ys : List Str}, out ds = x :: ys → atI ((out ds).map V.str) (0 : Int) = some (.str x) := fun {x ys} e => by
      rw [e]
      exact atI_nat (j := 0) rfl
    have n1 : ("invalid" : Str) ≠ "told" := by decide
    have n2 : ("unlike" : Str) ≠ "told" := by decide
    cases hb : bad ds with
    | some d =>
      refine ⟨_, rfl, du, _, _, _, rfl, rfl, SqL.of at6, first (out_bad hb), rfl, _, rfl, ite2 (fun z => ?_) (fun z => ?_)⟩
      · exact q _ s06
      · exact absurd (by simp [n1]) z
    | none =>
      cases hu : uni ds with
      | false =>
        refine ⟨_, rfl, du, _, _, _, rfl, rfl, SqL.of at6, first (out_mix hb hu), rfl, _, rfl, ite2 (fun z => ?_) (fun z => ?_)⟩
        · exact q _ s06
        · exact absurd (by simp [n2]) z
      | true =>
        have nb := bad_none.mp hb
        refine ⟨_, rfl, du, _, _, _, rfl, rfl, SqL.of at6, first (out_uni hb hu), rfl, _, rfl, ite2 (fun z => ?_) (fun z => ?_)⟩
        · simp at z
        refine ⟨_, rfl, p, xs, ds, rfl, .inl (SqL.of (s06 _ _ hp)), hd.same s06, th, by omega, fun _ _ w1 G7 H7 s7 hw1 ew1 => ?_, fun _ z => (by rw [hu] at z; cases z), fun _ _ z => (by rw [hb] at z; cases z)⟩
        have a7 : H7 w1 = some (.tup ((ranks ds).map V.int)) := by rw [ew1, upd_same]
        have s67 : Same H6 H7 := by rw [ew1]; exact s7.trans (same_new hw1)
        have s07 := s06.trans s67
        refine ⟨_, rfl, p, xs, ds, rfl, s07 _ _ hp, hd.same s07, vl, nb, hu, by omega, fun y ys H8 s8 ay dy => ?_⟩
        have kk := st_kinds vl nb
        have sb := st_bad vl nb
        have su : uni (ds.map stD) = true := by
          unfold uni
          rw [kk]
          exact hu
        refine ⟨y, ys, ds.map stD, rfl, .inl (SqL.of ay), dy, fun e he => ?_, by rw [List.length_map]; omega, fun _ _ w2 G9 H9 s9 hw2 ew2 => ?_, fun _ z => (by rw [su] at z; cases z), fun _ _ z => (by rw [sb] at z; cases z)⟩
        · obtain ⟨d, m, rfl⟩ := List.mem_map.mp he
          exact (st_val (vl d m) (nb d m)).1
        · rw [st_ranks nb] at ew2
          have a9 : H9 w2 = some (.tup ((ranks ds).map V.int)) := by rw [ew2, upd_same]
          have s89 : Same H8 H9 := by rw [ew2]; exact s9.trans (same_new hw2)
          have s79 := s8.trans s89
          have s09 := s07.trans s79
          refine ⟨_, rfl, ne_tups a9 (s79 _ _ a7) ⟨_, rfl, iteF ?_⟩⟩
          exact ⟨_, rfl, _, rfl, p, w1, xs, ds, rfl, s09 _ _ hp, hd.same s09, nb, hu, by omega, s79 _ _ a7, fun H' s' => q H' (s09.trans s')⟩
end
end K15

set_option Elab.async false
set_option linter.all false
set_option maxRecDepth 100000
set_option maxHeartbeats 8000000
namespace K15
open PySem PySem.Spec L2 PSG PSS
open PyProof.Rows (IntsAre AllBare)
abbrev s_law : Stmt := topS 34
theorem sc_law : FnScope ["_law_script", "_law_k", "_law_rng_here", "_law_turn", "_law_a", "_law_b", "_law_c", "_law_step"] ["_law_script"] (defScope s_law) := ⟨rfl, rfl, rfl, by decide +kernel, rfl, by decide +kernel, by decide +kernel⟩

theorem rep_bools {H : Hp} {p : Addr} {b c : Bool} {Q : VK} (hp : H p = some (.lst [.bl b, .bl c])) (q : Q (.str (PyData.list [.bool b, .bool c]).shown) H) : rRep [.ref p] H Q := by
  have f : Fine (.list [.bool b, .bool c]) := by
    cases b <;> cases c <;> exact fine_dec (by decide +kernel)
  exact ⟨.ref p, .list [.bool b, .bool c], false, rfl, .lst hp (fun z => nomatch z) (.cons (.bl _) (.cons (.bl _) .nil)), fun z => by simp [PyData.hasDict, PyData.hasDictAll] at z, f.sh, by have := f.ln; rw [sizeLine_eq]; omega, by have := f.dp; omega, q⟩
section
variable {P : Program} {w : World} {K : PySem.W.Frag} {mg : Str → Option Value} {base : Heap}
def spLaw (K : PySem.W.Frag) : Sp := fun vs H Q _ => ∃ (a : Addr) (ns : List Int), vs = [.ref a] ∧ SqL K H a (ns.map V.int) ∧ ns.length ≤ 63 ∧ ∀ H', Q (.bl true) H'
set_option maxHeartbeats 40000000 in
theorem ok_law {f fR fT fD fG fF fL fS : Addr} {fd dR dT dD dG dF dL dS : FuncData} (F : Fun K "law" "law" s_law f fd) (T : Blt mg)
    (F__law_rng : Fun K "_law_rng" "_law_rng" s__law_rng fR dR) (b__law_rng : Binds K dR ["_law_script", "_law_k"] []) (g__law_rng : mg "_law_rng" = some (.ref fR))
    (F__law_draw : Fun K "_law_draw" "_law_draw" s__law_draw fD dD) (b__law_draw : Binds K dD ["_law_rng_here", "_law_many"] []) (g__law_draw : mg "_law_draw" = some (.ref fD))
    (F__law_things : Fun K "_law_things" "_law_things" s__law_things fT dT) (b__law_things : Binds K dT ["_law_rng_here"] []) (g__law_things : mg "_law_things" = some (.ref fT)) (G__law_things : FnOk P w K mg base CX0 3 fT dT ["_law_rng_here"] spThings)
    (F__law_right : Fun K "_law_right" "_law_right" s__law_right fG dG) (b__law_right : Binds K dG ["_law_some", "_law_is_named"] []) (g__law_right : mg "_law_right" = some (.ref fG)) (G__law_right : FnG P w K mg base CX0 5 fG dG ["_law_some", "_law_is_named"] spRight)
    (F_signs_fit : Fun K "signs_fit" "signs_fit" s_signs_fit fF dF) (b_signs_fit : Binds K dF ["one", "other", "both"] []) (g_signs_fit : mg "signs_fit" = some (.ref fF))
    (kb_signs_fit : ∀ (s : Shared) (ws : List Value), K.In s.heap → (flip3 ws).length = 3 → BindsTo s dF ⟨[], (["both", "other", "one"] : List Str).zip ws⟩ ((["one", "other", "both"] : List Str).zip (flip3 ws)))
    (F__law_fit : Fun K "_law_fit" "_law_fit" s__law_fit fL dL) (b__law_fit : Binds K dL ["_law_a", "_law_b", "_law_c"] []) (g__law_fit : mg "_law_fit" = some (.ref fL))
    (F__law_sign : Fun K "_law_sign" "_law_sign" s__law_sign fS dS) (b__law_sign : Binds K dS ["_law_a", "_law_b"] []) (g__law_sign : mg "_law_sign" = some (.ref fS)) :
    FnG P w K mg base CX0 6 f fd ["_law_script"] (spLaw K) := by
  have sc := sc_law
  have G__law_rng : FnOk P w K mg base CX0 1 fR dR ["_law_script", "_law_k"] (spRng K) := ok_rng F__law_rng T
  have G__law_draw : FnOk P w K mg base CX0 1 fD dD _ spDraw := ok_draw F__law_draw T
  have G_signs_fit : FnOk P w K mg base CX0 1 fF dF ["one", "other", "both"] spFit := ok_fit F_signs_fit
  have G__law_fit : FnOk P w K mg base CX0 2 fL dL ["_law_a", "_law_b", "_law_c"] spLawFit := ok_law_fit F__law_fit T F__law_sign b__law_sign g__law_sign
  refine okG F sc (fun vs H Q E h => ?_) (fun cdv B up s H vs Q E hr gd h => ?_)
  · obtain ⟨a, ns, rfl, _⟩ := h
    rfl
  · obtain ⟨a, ns, rfl, hS, hlen, k⟩ := h
    refine ⟨_, (pss_cons (ps_for PassesOwn.never (by rfl) (pi_range1 (by rfl) T.n_range (pa_cons (pe_callB (call_max2 rfl) (by rfl) T.n_max (by decide +kernel) (pa_cons pe_int (pa_cons (pe_callB (call_min2 rfl) (by rfl) T.n_min (by decide +kernel) (pa_cons (pe_callB call_len_seq (by rfl) T.n_len PySem.boot_len (pa_cons (pv 0) pa_nil)) (pa_cons pe_int pa_nil))) pa_nil))) pa_nil)) (pg_name (i := 1) sc.nd rfl (.inl rfl)) (pss_cons (ps_set (i := 2) sc.nd rfl (.inr rfl) (pe_call G__law_rng (hr.mono (by decide)) (by rfl) g__law_rng F__law_rng.kp b__law_rng .nil pass0 (pa_cons (pv 0) (pa_cons (pv 1) pa_nil))))
      (pss_one (ps_for PassesOwn.never (by rfl) (pi_range1 (by rfl) T.n_range (pa_cons pe_int pa_nil)) (pg_name (i := 3) sc.nd rfl (.inl rfl)) (pss_cons (ps_if (pt_not (pt_val (pe_callG G__law_right (hr.mono (by decide)) gd (by rfl) g__law_right F__law_right.kp b__law_right .nil pass0 (pa_cons (pe_call G__law_things (hr.mono (by decide)) (by rfl) g__law_things F__law_things.kp b__law_things .nil pass0 (pa_cons (pv 2) pa_nil)) (pa_cons (pe_cmpR op_eq (pe_op op_mod (pv 3) pe_int) pe_int (nomark _)) pa_nil))))) (pss_one (ps_ret pe_bl)) pss_nil)
      (pss_cons (ps_asg (pe_lc (own := [("_law_step", 7)]) (g := gName 7) (tt := tYes) (by rfl) sc.nd (pi_range1 (by rfl) T.n_range (pa_cons pe_int pa_nil)) (blkOk_by (own := [("_law_step", 7)]) (N := ["_law_script", "_law_k", "_law_rng_here", "_law_turn", "_law_a", "_law_b", "_law_c", "_law_step"]) (sc := defScope s_law) (by decide +kernel)) (fun _ _ _ _ _ => pg_name (i := 7) sc.nd rfl (Or.inl rfl)) (fun _ _ _ _ _ => pts_nil) (fun _ _ _ _ _ => (pe_op op_sub (pe_call G__law_draw (hr.mono (by decide)) (by rfl) g__law_draw F__law_draw.kp b__law_draw .nil pass0 (pa_cons (pv 2) (pa_cons pe_int pa_nil))) pe_int))) (pg_lst (by rfl) (pgs_cons (pg_name (i := 4) sc.nd rfl (.inl rfl)) (pgs_cons (pg_name (i := 5) sc.nd rfl (.inl rfl)) (pgs_cons (pg_name (i := 6) sc.nd rfl (.inl rfl)) pgs_nil)))))
      (pss_one (ps_if (pt_cmpR op_ne (pe_callB (call_reprH (by have z := room_units hr; exact z) gd) (by rfl) T.n_repr (by decide +kernel) (pa_cons (pe_lst (pa_cons (pe_call G_signs_fit (hr.mono (by decide)) (by rfl) g_signs_fit F_signs_fit.kp b_signs_fit .nil pass0 (pa_cons (pv 4) (pa_cons (pv 5) (pa_cons (pv 6) pa_nil)))) (pa_cons (pe_callR (ks := ["both", "other", "one"]) (g := flip3) (gV := flip3) G_signs_fit (hr.mono (by decide)) (by rfl) g_signs_fit F_signs_fit.kp kb_signs_fit flip3_rel pass0At (pk_cons (pv 6) (pk_cons (pv 5) (pk_cons (pv 4) pk_nil)))) pa_nil))) pa_nil)) (pe_callB (call_reprH (by have z := room_units hr; exact z) gd) (by rfl) T.n_repr (by decide +kernel) (pa_cons (pe_op op_rep (pe_lst (pa_cons (pe_call G__law_fit (hr.mono (by decide)) (by rfl) g__law_fit F__law_fit.kp b__law_fit .nil pass0 (pa_cons (pv 4) (pa_cons (pv 5) (pa_cons (pv 6) pa_nil)))) pa_nil)) pe_int) pa_nil)) (nomark _)) (pss_one (ps_ret pe_bl)) pss_nil))))))))
      (pss_one (ps_ret pe_bl))), ?_⟩
    refine ⟨_, rfl, a, _, rfl, .inl hS, _, _, rfl, _, _, rfl, _, rfl, ?_, ?_, for_range (lo := 0) (fun i σ G => ∃ u1 u2 u3 u4 u5 u6, σ = [some (.ref a), u1, u2, u3, u4, u5, u6, none] ∧ Same H G) ⟨none, none, none, none, none, none, rfl, Same.refl _⟩ ?_ ?_⟩
    · split <;> split <;> omega
    · split <;> split <;> omega
    · rintro i σ G hi ⟨u1, u2, u3, u4, u5, u6, rfl, s0⟩
      have lt : i ≤ 1000 := by
        have z : (i : Int) < 8 := by
          have z1 : (i : Int) < _ := Int.lt_toNat.mp hi
          refine Int.lt_of_lt_of_le z1 ?_
          split <;> split <;> omega
        omega
      refine ⟨_, rfl, _, rfl, a, ns, i, (by show [V.ref a, V.int (0 + (i : Int))] = [V.ref a, V.int i]; rw [Int.zero_add]), s0.seq hS, lt, fun r x y hr0 x0 y0 y1 => ?_⟩
      have g1 : Rg (upd G r (.lst [.int x, .int y])) r := ⟨x, y, upd_same, x0, y0, y1⟩
      have s1 : Same G (upd G r (.lst [.int x, .int y])) := same_new hr0
      have rn : H r = none := by
        cases e : H r with
        | none => rfl
        | some o =>
          rw [s0 _ _ e] at hr0
          cases hr0
      generalize upd G r (.lst [.int x, .int y]) = G1 at g1 s1 ⊢
      refine ⟨10, rfl, by decide, by decide, for_range (lo := 0) (n := 10) (fun j σ G' => ∃ u1 u3 u4 u5 u6, σ = [some (.ref a), u1, some (.ref r), u3, u4, u5, u6, none] ∧ Rg G' r ∧ But r G1 G') ⟨_, _, _, _, _, rfl, g1, But.refl⟩ ?_ ?_⟩
      · rintro j σ G2 hj ⟨v1, v3, v4, v5, v6, rfl, g2, b2⟩
        refine ⟨_, rfl, r, rfl, g2, fun p xs ds H3 g3 b3 ap dv vl few far => ?_⟩
        refine ⟨_, rfl, _, _, rfl, rfl, (by show (0 : Int) < 2; decide), rfl, ?_⟩
        refine ⟨p, xs, ds, _, rfl, ap, dv, vl, few, far, fun H4 s4 => ⟨_, rfl, iteF ?_⟩⟩
        have g4 := g3.same s4
        have b4 := (b2.trans b3).trans (But.of (r := r) s4)
        have off : ∀ {G : Hp} {p : Addr}, Rg G r → G p = none → p ≠ r := fun {G p} g h z => by
          obtain ⟨o, e⟩ := g.some
          rw [z, e] at h
          cases h
        refine ⟨3, rfl, by decide, by decide, fun D hD => ?_⟩
        have nD := off g4 hD
        refine w_range (lo := 0) (n := 3) (fun m G => Rg G r ∧ (∀ b o, b ≠ r → G1 b = some o → G b = some o) ∧ ∃ zs : List Int, G D = some (.lst (zs.map V.int)) ∧ zs.length = m ∧ ∀ z ∈ zs, isSg z)
          ⟨g4.new hD, (b4.trans (But.of (same_new hD))), [], upd_same, rfl, fun z m => by cases m⟩ (fun m G hm ⟨gR, bR, zs, aD, lz, sz⟩ => ?_) (fun G ⟨gR, bR, zs, aD, lz, sz⟩ => ?_)
        · refine ⟨rfl, ?_⟩
          refine ⟨_, rfl, r, 3, rfl, gR, by decide, by decide, fun d G' d0 d1 g' b' => ⟨_, _, rfl, rfl, _, b' _ _ nD aD, by rw [List.length_map, sizeLine_eq]; omega, ?_, fun b o nb e => ?_, zs ++ [d - 1], ?_, by rw [List.length_append, lz]; rfl, fun z hz => ?_⟩⟩
          · obtain ⟨x, y, e, z⟩ := g'
            exact ⟨x, y, (upd_ne (Ne.symm nD)).trans e, z⟩
          · have z := b' _ _ nb (bR b o nb e)
            refine (upd_ne fun y => ?_).trans z
            have z4 := b4 b o nb e
            rw [y, hD] at z4
            cases z4
          · rw [upd_same, List.map_append]
            rfl
          · rcases List.mem_append.mp hz with hz | hz
            · exact sz z hz
            · rw [List.mem_singleton.mp hz]
              have c : d = 0 ∨ d = 1 ∨ d = 2 := by omega
              rcases c with rfl | rfl | rfl
              · exact .inl rfl
              · exact .inr (.inl rfl)
              · exact .inr (.inr rfl)
        · match zs, lz with
          | [x, y, z], _ =>
            have gx := sz x (by simp)
            have gy := sz y (by simp)
            have gz := sz z (by simp)
            refine ⟨D, [.int x, .int y, .int z], rfl, SqL.of aD, rfl, _, _, rfl, _, _, rfl, _, _, rfl, rfl, ?_⟩
            refine ⟨_, rfl, _, rfl, _, rfl, x, y, z, rfl, fun H5 s5 => ?_⟩
            refine ⟨_, rfl, _, rfl, _, rfl, x, y, z, rfl, fun H6 s6 => ⟨(by show 2 ≤ sizeLine; decide), fun p1 hp1 => ?_⟩⟩
            have a7 : upd H6 p1 (.lst [.bl (fits x y z), .bl (fits x y z)]) p1 = some (.lst [.bl (fits x y z), .bl (fits x y z)]) := upd_same
            have s7 : Same G (upd H6 p1 (.lst [.bl (fits x y z), .bl (fits x y z)])) := s5.trans (s6.trans (same_new hp1))
            generalize upd H6 p1 (.lst [.bl (fits x y z), .bl (fits x y z)]) = H7 at a7 s7 ⊢
            dsimp only [tNil]
            refine rep_bools a7 ?_
            refine ⟨_, rfl, _, rfl, _, rfl, x, y, z, rfl, gx, gy, gz, fun H8 s8 => ?_⟩
            refine ⟨(by show 1 ≤ sizeLine; decide), fun p2 hp2 => ⟨p2, 2, _, rfl, rfl, upd_same, by decide, by decide, (by show 1 * 2 ≤ sizeLine; decide), fun p3 hp3 => ?_⟩⟩
            have a9 : upd (upd H8 p2 (.lst [.bl (fits x y z)])) p3 (.lst (List.replicate (2 : Int).toNat [V.bl (fits x y z)]).flatten) p3 = some (.lst [.bl (fits x y z), .bl (fits x y z)]) := upd_same
            have s9 : Same G (upd (upd H8 p2 (.lst [.bl (fits x y z)])) p3 (.lst (List.replicate (2 : Int).toNat [V.bl (fits x y z)]).flatten)) := s7.trans (s8.trans ((same_new hp2).trans (same_new hp3)))
            generalize upd (upd H8 p2 (.lst [.bl (fits x y z)])) p3 (.lst (List.replicate (2 : Int).toNat [V.bl (fits x y z)]).flatten) = H9 at a9 s9 ⊢
            dsimp only [tNil]
            refine rep_bools a9 ⟨rfl, _, rfl, ?_⟩
            refine ite2 (fun z => ?_) (fun z => ?_)
            · simp at z
            · exact ⟨_, _, _, _, _, rfl, gR.same s9, fun b o nb e => s9 _ _ (bR b o nb e)⟩
      · rintro σ G2 ⟨v1, v3, v4, v5, v6, rfl, g2, b2⟩
        exact ⟨_, _, _, _, _, _, rfl, fun b o e => b2 b o (fun z => by rw [z, rn] at e; cases e) (s1 _ _ (s0 _ _ e))⟩
    · rintro σ G _
      exact k G
end
end K15

set_option Elab.async false
set_option linter.all false
set_option maxRecDepth 100000
set_option maxHeartbeats 8000000
namespace K15
open PySem PySem.Spec L2 PSG PSS
open PyProof.Rows (IntsAre AllBare)
/-- the classes against each other, in one look -/
def kits (K : PySem.W.Frag) (CI CU CP C1 C2 C3 : Addr) : Bool :=
  decide (PySem.W.exmOne K (.ref CU) (.ref CU) = some true) && (decide (PySem.W.exmOne K (.ref CI) (.ref CU) = some false) && (decide (PySem.W.exmOne K (.ref CI) (.ref CP) = some true) && (decide (PySem.W.kitOne K (.ref CU) (.type "RuntimeError") = some true) && (decide (PySem.W.kitOne K (.ref CU) (.ref CP) = some false) && (decide (PySem.W.kitOne K (.ref CI) (.ref C1) = some false) && (decide (PySem.W.kitOne K (.ref CI) (.ref C2) = some false) && (decide (PySem.W.kitOne K (.ref CI) (.ref C3) = some false) && (decide (PySem.W.kitOne K (.ref CI) (.type "ValueError") = some true) && (decide (PySem.W.kitOne K (.ref CI) (.ref CI) = some true))))))))))
section
variable {P : Program} {w : World} {K : PySem.W.Frag} {mg : Str → Option Value} {base : Heap} {f C : Addr} {fd : FuncData} {B newId initId : String} {bmB : List Value}
abbrev si0 : Stmt := inClass (topS 10) 0
theorem sci0 : FnScope ["self", "value"] ["self", "value"] (defScope si0) := ⟨rfl, rfl, rfl, by decide +kernel, rfl, by decide +kernel, by decide +kernel⟩
theorem oki0 (F : Fun K "__init__" "InvalidValue.__init__" si0 f fd) (T : Xk K C f B newId initId bmB) (no0 : PySem.W.findIn K (.ref C) "value" = some none) : FnOk P w K mg base CX0 1 f fd ["self", "value"] (spXI C ["value"]) := by
  have sc := sci0
  refine F.ok sc (fun vs H Q E h => ?_) (fun cdv A outer s H vs Q E hr h => ?_)
  · obtain ⟨a, ws, rfl, hl, _⟩ := h
    exact congrArg Nat.succ hl
  · obtain ⟨a, ws, rfl, hl, hH, k⟩ := h
    obtain ⟨v0, rfl⟩ := ws_1 hl
    refine ⟨_, pss_one (ps_xset (pv 0) (pv 1)), ?_⟩
    refine ⟨_, rfl, _, rfl, a, C, f, _, _, _, _, rfl, T, no0, .inl ⟨hH, fun dx nd na => ?_⟩⟩
    have keep : ∀ u : HO, ∀ b o, b ≠ a → H b = some o → (upd (upd H dx u) a (exo a C (some dx))) b = some o := fun u b o hb e => (upd_ne hb).trans ((upd_ne (ne_of_none e nd)).trans e)
    exact k _ (keep _) (.inr ⟨dx, by simp, upd_same, (upd_ne na).trans upd_same⟩)
theorem own0 (F : Fun K "__init__" "InvalidValue.__init__" si0 f fd) (g : mg "InvalidValue" = some (.ref C)) (i : PySem.W.findIn K (.ref C) "__init__" = some (some (.ref f))) (L : Look K C f [.type "ValueError", .type "Exception", .type "BaseException", .type "object"] "ValueError.__new__" ["value"]) : Own P w K mg base "InvalidValue" C ["value"] := by
  have X := L.xk (B := "ValueError") (initId := "ValueError.__init__") i PySem.F.excBase_ValueError PySem.F.store_ValueError
  exact ⟨g, f, fd, ["self", "value"], _, _, _, _, X, oki0 F X (L.no _ (by decide +kernel)), F.binds (ps := ["self", "value"]) (fun _ _ _ _ _ _ us hl => match us, hl with | [_, _], _ => rfl), rfl⟩
abbrev si1 : Stmt := inClass (topS 14) 0
theorem sci1 : FnScope ["self"] ["self"] (defScope si1) := ⟨rfl, rfl, rfl, by decide +kernel, rfl, by decide +kernel, by decide +kernel⟩
theorem oki1 (F : Fun K "__init__" "Unlike.__init__" si1 f fd) (T : Xk K C f B newId initId bmB)  : FnOk P w K mg base CX0 1 f fd ["self"] (spXI C []) := by
  have sc := sci1
  refine F.ok sc (fun vs H Q E h => ?_) (fun cdv A outer s H vs Q E hr h => ?_)
  · obtain ⟨a, ws, rfl, hl, _⟩ := h
    exact congrArg Nat.succ hl
  · obtain ⟨a, ws, rfl, hl, hH, k⟩ := h
    obtain rfl := ws_0 hl
    refine ⟨_, pss_one ps_pass, ?_⟩
    exact k H (fun _ _ _ e => e) (.inl ⟨rfl, hH⟩)
theorem own1 (F : Fun K "__init__" "Unlike.__init__" si1 f fd) (g : mg "Unlike" = some (.ref C)) (i : PySem.W.findIn K (.ref C) "__init__" = some (some (.ref f))) (L : Look K C f [.type "RuntimeError", .type "Exception", .type "BaseException", .type "object"] "RuntimeError.__new__" []) : Own P w K mg base "Unlike" C [] := by
  have X := L.xk (B := "RuntimeError") (initId := "RuntimeError.__init__") i PySem.F.excBase_RuntimeError PySem.F.store_RuntimeError
  exact ⟨g, f, fd, ["self"], _, _, _, _, X, oki1 F X , F.binds (ps := ["self"]) (fun _ _ _ _ _ _ us hl => match us, hl with | [_], _ => rfl), rfl⟩
end
set_option maxHeartbeats 0 in
theorem all_mk {l : PySem.W.OpenLaw} {w : World} {K : PySem.W.Frag} {h : Heap} {mg : Str → Option Value} {fa CI CU CP C1 C2 C3 f0 f1 fd0 fd1 fd2 fd3 fd4 fd5 fd6 fd7 fd8 fd9 fd10 fd11 fd12 fd13 fd14 fd15 fd16 fd17 fd18 fd19 fd20 fd21 fd22 : Addr} (X : K.In h) (G : h.Ns mainGlobals mg) (hfa : mg "law" = some (.ref fa))
    {od0 an0 od1 an1 odd0 and0 odd1 and1 odd2 and2 odd3 and3 odd4 and4 odd5 and5 odd6 and6 odd7 and7 odd8 and8 odd9 and9 odd10 and10 odd11 and11 odd12 and12 odd13 and13 odd14 and14 odd15 and15 odd16 and16 odd17 and17 odd18 and18 odd19 and19 odd20 and20 odd21 and21 odd22 and22 : Option Addr} {sl0 sl1 sld0 sld1 sld2 sld3 sld4 sld5 sld6 sld7 sld8 sld9 sld10 sld11 sld12 sld13 sld14 sld15 sld16 sld17 sld18 sld19 sld20 sld21 sld22 : Array (Option Value)} {oc0 kV0 dc0 pm0 cv0 ct0 oc1 kV1 dc1 pm1 cv1 ct1 ocd0 kVd0 dcd0 pmd0 cvd0 ctd0 ocd1 kVd1 dcd1 pmd1 cvd1 ctd1 ocd2 kVd2 dcd2 pmd2 cvd2 ctd2 ocd3 kVd3 dcd3 pmd3 cvd3 ctd3 ocd4 kVd4 dcd4 pmd4 cvd4 ctd4 ocd5 kVd5 dcd5 pmd5 cvd5 ctd5 ocd6 kVd6 dcd6 pmd6 cvd6 ctd6 ocd7 kVd7 dcd7 pmd7 cvd7 ctd7 ocd8 kVd8 dcd8 pmd8 cvd8 ctd8 ocd9 kVd9 dcd9 pmd9 cvd9 ctd9 ocd10 kVd10 dcd10 pmd10 cvd10 ctd10 ocd11 kVd11 dcd11 pmd11 cvd11 ctd11 ocd12 kVd12 dcd12 pmd12 cvd12 ctd12 ocd13 kVd13 dcd13 pmd13 cvd13 ctd13 ocd14 kVd14 dcd14 pmd14 cvd14 ctd14 ocd15 kVd15 dcd15 pmd15 cvd15 ctd15 ocd16 kVd16 dcd16 pmd16 cvd16 ctd16 ocd17 kVd17 dcd17 pmd17 cvd17 ctd17 ocd18 kVd18 dcd18 pmd18 cvd18 ctd18 ocd19 kVd19 dcd19 pmd19 cvd19 ctd19 ocd20 kVd20 dcd20 pmd20 cvd20 ctd20 ocd21 kVd21 dcd21 pmd21 cvd21 ctd21 ocd22 kVd22 dcd22 pmd22 cvd22 ctd22 : Value} {tL tM : Tok}
    (a0 : PySem.W.nsIn K mainGlobals "InvalidValue" = some (some (.ref CI)))
    (i0 : PySem.W.findIn K (.ref CI) "__init__" = some (some (.ref f0)))
    (l0 : K.lookup f0 = some ⟨oc0, od0, .func (PySem.W.fnOf "__init__" "InvalidValue.__init__" (defArgs si0) (defBody si0) (defScope si0) .none kV0 dc0 pm0 an0 cv0 ct0), sl0⟩)
    (c0 : PySem.W.codeIn K cv0 "InvalidValue.__init__" = true)
    (k0 : PySem.W.keepIn K (.ref f0) = true)
    (a1 : PySem.W.nsIn K mainGlobals "Unlike" = some (some (.ref CU)))
    (i1 : PySem.W.findIn K (.ref CU) "__init__" = some (some (.ref f1)))
    (l1 : K.lookup f1 = some ⟨oc1, od1, .func (PySem.W.fnOf "__init__" "Unlike.__init__" (defArgs si1) (defBody si1) (defScope si1) .none kV1 dc1 pm1 an1 cv1 ct1), sl1⟩)
    (c1 : PySem.W.codeIn K cv1 "Unlike.__init__" = true)
    (k1 : PySem.W.keepIn K (.ref f1) = true)
    (aCP : PySem.W.nsIn K mainGlobals "PairError" = some (some (.ref CP)))
    (aC1 : PySem.W.nsIn K mainGlobals "InvalidCount" = some (some (.ref C1)))
    (aC2 : PySem.W.nsIn K mainGlobals "InvalidRow" = some (some (.ref C2)))
    (aC3 : PySem.W.nsIn K mainGlobals "InvalidVector" = some (some (.ref C3)))
    (ad0 : PySem.W.nsIn K mainGlobals "is_integer" = some (some (.ref fd0)))
    (ld0 : K.lookup fd0 = some ⟨ocd0, odd0, .func (PySem.W.fnOf "is_integer" "is_integer" (defArgs s_is_integer) (defBody s_is_integer) (defScope s_is_integer) .none kVd0 dcd0 pmd0 and0 cvd0 ctd0), sld0⟩)
    (cd0 : PySem.W.codeIn K cvd0 "is_integer" = true)
    (kd0 : PySem.W.keepIn K (.ref fd0) = true)
    (ad1 : PySem.W.nsIn K mainGlobals "is_letters" = some (some (.ref fd1)))
    (ld1 : K.lookup fd1 = some ⟨ocd1, odd1, .func (PySem.W.fnOf "is_letters" "is_letters" (defArgs s_is_letters) (defBody s_is_letters) (defScope s_is_letters) .none kVd1 dcd1 pmd1 and1 cvd1 ctd1), sld1⟩)
    (cd1 : PySem.W.codeIn K cvd1 "is_letters" = true)
    (kd1 : PySem.W.keepIn K (.ref fd1) = true)
    (ad2 : PySem.W.nsIn K mainGlobals "is_value" = some (some (.ref fd2)))
    (ld2 : K.lookup fd2 = some ⟨ocd2, odd2, .func (PySem.W.fnOf "is_value" "is_value" (defArgs s_is_value) (defBody s_is_value) (defScope s_is_value) .none kVd2 dcd2 pmd2 and2 cvd2 ctd2), sld2⟩)
    (cd2 : PySem.W.codeIn K cvd2 "is_value" = true)
    (kd2 : PySem.W.keepIn K (.ref fd2) = true)
    (ad3 : PySem.W.nsIn K mainGlobals "kind_of_value" = some (some (.ref fd3)))
    (ld3 : K.lookup fd3 = some ⟨ocd3, odd3, .func (PySem.W.fnOf "kind_of_value" "kind_of_value" (defArgs s_kind_of_value) (defBody s_kind_of_value) (defScope s_kind_of_value) .none kVd3 dcd3 pmd3 and3 cvd3 ctd3), sld3⟩)
    (cd3 : PySem.W.codeIn K cvd3 "kind_of_value" = true)
    (kd3 : PySem.W.keepIn K (.ref fd3) = true)
    (ad4 : PySem.W.nsIn K mainGlobals "sign_between" = some (some (.ref fd4)))
    (ld4 : K.lookup fd4 = some ⟨ocd4, odd4, .func (PySem.W.fnOf "sign_between" "sign_between" (defArgs s_sign_between) (defBody s_sign_between) (defScope s_sign_between) .none kVd4 dcd4 pmd4 and4 cvd4 ctd4), sld4⟩)
    (cd4 : PySem.W.codeIn K cvd4 "sign_between" = true)
    (kd4 : PySem.W.keepIn K (.ref fd4) = true)
    (ad5 : PySem.W.nsIn K mainGlobals "weak_order_of" = some (some (.ref fd5)))
    (ld5 : K.lookup fd5 = some ⟨ocd5, odd5, .func (PySem.W.fnOf "weak_order_of" "weak_order_of" (defArgs s_weak_order_of) (defBody s_weak_order_of) (defScope s_weak_order_of) .none kVd5 dcd5 pmd5 and5 cvd5 ctd5), sld5⟩)
    (cd5 : PySem.W.codeIn K cvd5 "weak_order_of" = true)
    (kd5 : PySem.W.keepIn K (.ref fd5) = true)
    (ad6 : PySem.W.nsIn K mainGlobals "pair_sign" = some (some (.ref fd6)))
    (ld6 : K.lookup fd6 = some ⟨ocd6, odd6, .func (PySem.W.fnOf "pair_sign" "pair_sign" (defArgs s_pair_sign) (defBody s_pair_sign) (defScope s_pair_sign) .none kVd6 dcd6 pmd6 and6 cvd6 ctd6), sld6⟩)
    (cd6 : PySem.W.codeIn K cvd6 "pair_sign" = true)
    (kd6 : PySem.W.keepIn K (.ref fd6) = true)
    (ad7 : PySem.W.nsIn K mainGlobals "signs_fit" = some (some (.ref fd7)))
    (ld7 : K.lookup fd7 = some ⟨ocd7, odd7, .func (PySem.W.fnOf "signs_fit" "signs_fit" (defArgs s_signs_fit) (defBody s_signs_fit) (defScope s_signs_fit) .none kVd7 dcd7 pmd7 and7 cvd7 ctd7), sld7⟩)
    (cd7 : PySem.W.codeIn K cvd7 "signs_fit" = true)
    (kd7 : PySem.W.keepIn K (.ref fd7) = true)
    (ad8 : PySem.W.nsIn K mainGlobals "_law_rng" = some (some (.ref fd8)))
    (ld8 : K.lookup fd8 = some ⟨ocd8, odd8, .func (PySem.W.fnOf "_law_rng" "_law_rng" (defArgs s__law_rng) (defBody s__law_rng) (defScope s__law_rng) .none kVd8 dcd8 pmd8 and8 cvd8 ctd8), sld8⟩)
    (cd8 : PySem.W.codeIn K cvd8 "_law_rng" = true)
    (kd8 : PySem.W.keepIn K (.ref fd8) = true)
    (ad9 : PySem.W.nsIn K mainGlobals "_law_draw" = some (some (.ref fd9)))
    (ld9 : K.lookup fd9 = some ⟨ocd9, odd9, .func (PySem.W.fnOf "_law_draw" "_law_draw" (defArgs s__law_draw) (defBody s__law_draw) (defScope s__law_draw) .none kVd9 dcd9 pmd9 and9 cvd9 ctd9), sld9⟩)
    (cd9 : PySem.W.codeIn K cvd9 "_law_draw" = true)
    (kd9 : PySem.W.keepIn K (.ref fd9) = true)
    (ad10 : PySem.W.nsIn K mainGlobals "_law_choice" = some (some (.ref fd10)))
    (ld10 : K.lookup fd10 = some ⟨ocd10, odd10, .func (PySem.W.fnOf "_law_choice" "_law_choice" (defArgs s__law_choice) (defBody s__law_choice) (defScope s__law_choice) .none kVd10 dcd10 pmd10 and10 cvd10 ctd10), sld10⟩)
    (cd10 : PySem.W.codeIn K cvd10 "_law_choice" = true)
    (kd10 : PySem.W.keepIn K (.ref fd10) = true)
    (ad11 : PySem.W.nsIn K mainGlobals "_law_number" = some (some (.ref fd11)))
    (ld11 : K.lookup fd11 = some ⟨ocd11, odd11, .func (PySem.W.fnOf "_law_number" "_law_number" (defArgs s__law_number) (defBody s__law_number) (defScope s__law_number) .none kVd11 dcd11 pmd11 and11 cvd11 ctd11), sld11⟩)
    (cd11 : PySem.W.codeIn K cvd11 "_law_number" = true)
    (kd11 : PySem.W.keepIn K (.ref fd11) = true)
    (ad12 : PySem.W.nsIn K mainGlobals "_law_text" = some (some (.ref fd12)))
    (ld12 : K.lookup fd12 = some ⟨ocd12, odd12, .func (PySem.W.fnOf "_law_text" "_law_text" (defArgs s__law_text) (defBody s__law_text) (defScope s__law_text) .none kVd12 dcd12 pmd12 and12 cvd12 ctd12), sld12⟩)
    (cd12 : PySem.W.codeIn K cvd12 "_law_text" = true)
    (kd12 : PySem.W.keepIn K (.ref fd12) = true)
    (ad13 : PySem.W.nsIn K mainGlobals "_law_things" = some (some (.ref fd13)))
    (ld13 : K.lookup fd13 = some ⟨ocd13, odd13, .func (PySem.W.fnOf "_law_things" "_law_things" (defArgs s__law_things) (defBody s__law_things) (defScope s__law_things) .none kVd13 dcd13 pmd13 and13 cvd13 ctd13), sld13⟩)
    (cd13 : PySem.W.codeIn K cvd13 "_law_things" = true)
    (kd13 : PySem.W.keepIn K (.ref fd13) = true)
    (ad14 : PySem.W.nsIn K mainGlobals "_law_kind" = some (some (.ref fd14)))
    (ld14 : K.lookup fd14 = some ⟨ocd14, odd14, .func (PySem.W.fnOf "_law_kind" "_law_kind" (defArgs s__law_kind) (defBody s__law_kind) (defScope s__law_kind) .none kVd14 dcd14 pmd14 and14 cvd14 ctd14), sld14⟩)
    (cd14 : PySem.W.codeIn K cvd14 "_law_kind" = true)
    (kd14 : PySem.W.keepIn K (.ref fd14) = true)
    (ad15 : PySem.W.nsIn K mainGlobals "_law_due" = some (some (.ref fd15)))
    (ld15 : K.lookup fd15 = some ⟨ocd15, odd15, .func (PySem.W.fnOf "_law_due" "_law_due" (defArgs s__law_due) (defBody s__law_due) (defScope s__law_due) .none kVd15 dcd15 pmd15 and15 cvd15 ctd15), sld15⟩)
    (cd15 : PySem.W.codeIn K cvd15 "_law_due" = true)
    (kd15 : PySem.W.keepIn K (.ref fd15) = true)
    (ad16 : PySem.W.nsIn K mainGlobals "_law_told" = some (some (.ref fd16)))
    (ld16 : K.lookup fd16 = some ⟨ocd16, odd16, .func (PySem.W.fnOf "_law_told" "_law_told" (defArgs s__law_told) (defBody s__law_told) (defScope s__law_told) .none kVd16 dcd16 pmd16 and16 cvd16 ctd16), sld16⟩)
    (cd16 : PySem.W.codeIn K cvd16 "_law_told" = true)
    (kd16 : PySem.W.keepIn K (.ref fd16) = true)
    (ad17 : PySem.W.nsIn K mainGlobals "_law_sign" = some (some (.ref fd17)))
    (ld17 : K.lookup fd17 = some ⟨ocd17, odd17, .func (PySem.W.fnOf "_law_sign" "_law_sign" (defArgs s__law_sign) (defBody s__law_sign) (defScope s__law_sign) .none kVd17 dcd17 pmd17 and17 cvd17 ctd17), sld17⟩)
    (cd17 : PySem.W.codeIn K cvd17 "_law_sign" = true)
    (kd17 : PySem.W.keepIn K (.ref fd17) = true)
    (ad18 : PySem.W.nsIn K mainGlobals "_law_signs_right" = some (some (.ref fd18)))
    (ld18 : K.lookup fd18 = some ⟨ocd18, odd18, .func (PySem.W.fnOf "_law_signs_right" "_law_signs_right" (defArgs s__law_signs_right) (defBody s__law_signs_right) (defScope s__law_signs_right) .none kVd18 dcd18 pmd18 and18 cvd18 ctd18), sld18⟩)
    (cd18 : PySem.W.codeIn K cvd18 "_law_signs_right" = true)
    (kd18 : PySem.W.keepIn K (.ref fd18) = true)
    (ad19 : PySem.W.nsIn K mainGlobals "_law_stretched" = some (some (.ref fd19)))
    (ld19 : K.lookup fd19 = some ⟨ocd19, odd19, .func (PySem.W.fnOf "_law_stretched" "_law_stretched" (defArgs s__law_stretched) (defBody s__law_stretched) (defScope s__law_stretched) .none kVd19 dcd19 pmd19 and19 cvd19 ctd19), sld19⟩)
    (cd19 : PySem.W.codeIn K cvd19 "_law_stretched" = true)
    (kd19 : PySem.W.keepIn K (.ref fd19) = true)
    (ad20 : PySem.W.nsIn K mainGlobals "_law_right" = some (some (.ref fd20)))
    (ld20 : K.lookup fd20 = some ⟨ocd20, odd20, .func (PySem.W.fnOf "_law_right" "_law_right" (defArgs s__law_right) (defBody s__law_right) (defScope s__law_right) .none kVd20 dcd20 pmd20 and20 cvd20 ctd20), sld20⟩)
    (cd20 : PySem.W.codeIn K cvd20 "_law_right" = true)
    (kd20 : PySem.W.keepIn K (.ref fd20) = true)
    (ad21 : PySem.W.nsIn K mainGlobals "_law_fit" = some (some (.ref fd21)))
    (ld21 : K.lookup fd21 = some ⟨ocd21, odd21, .func (PySem.W.fnOf "_law_fit" "_law_fit" (defArgs s__law_fit) (defBody s__law_fit) (defScope s__law_fit) .none kVd21 dcd21 pmd21 and21 cvd21 ctd21), sld21⟩)
    (cd21 : PySem.W.codeIn K cvd21 "_law_fit" = true)
    (kd21 : PySem.W.keepIn K (.ref fd21) = true)
    (ad22 : PySem.W.nsIn K mainGlobals "law" = some (some (.ref fd22)))
    (ld22 : K.lookup fd22 = some ⟨ocd22, odd22, .func (PySem.W.fnOf "law" "law" (defArgs s_law) (defBody s_law) (defScope s_law) .none kVd22 dcd22 pmd22 and22 cvd22 ctd22), sld22⟩)
    (cd22 : PySem.W.codeIn K cvd22 "law" = true)
    (kd22 : PySem.W.keepIn K (.ref fd22) = true)
    (z_len : PySem.W.nsIn K mainGlobals "len" = some none)
    (z_max : PySem.W.nsIn K mainGlobals "max" = some none)
    (z_min : PySem.W.nsIn K mainGlobals "min" = some none)
    (z_abs : PySem.W.nsIn K mainGlobals "abs" = some none)
    (z_int : PySem.W.nsIn K mainGlobals "int" = some none)
    (z_divmod : PySem.W.nsIn K mainGlobals "divmod" = some none)
    (z_range : PySem.W.nsIn K mainGlobals "range" = some none)
    (z_isinstance : PySem.W.nsIn K mainGlobals "isinstance" = some none)
    (z_repr : PySem.W.nsIn K mainGlobals "repr" = some none)
    (z_all : PySem.W.nsIn K mainGlobals "all" = some none)
    (z_any : PySem.W.nsIn K mainGlobals "any" = some none)
    (z_bool : PySem.W.nsIn K mainGlobals "bool" = some none)
    (z_str : PySem.W.nsIn K mainGlobals "str" = some none)
    (z_set : PySem.W.nsIn K mainGlobals "set" = some none)
    (z_sorted : PySem.W.nsIn K mainGlobals "sorted" = some none)
    (z_enumerate : PySem.W.nsIn K mainGlobals "enumerate" = some none)
    (z_list : PySem.W.nsIn K mainGlobals "list" = some none)
    (z_tuple : PySem.W.nsIn K mainGlobals "tuple" = some none)
    (z_ValueError : PySem.W.nsIn K mainGlobals "ValueError" = some none)
    (z_RuntimeError : PySem.W.nsIn K mainGlobals "RuntimeError" = some none)
    (zL : PySem.W.nsIn K mainGlobals "LETTERS" = some (some (.str "abcdefghijklmnopqrstuvwxyz" tL)))
    (zM : PySem.W.nsIn K mainGlobals "MOST_TEXT" = some (some (.int 12 tM)))
    (g1 : PySem.W.specialIn K (.builtin "object.__class__") "__get__" = some (some (.builtin "getset_descriptor.__get__")))
    (g2 : PySem.W.takesIn K (.builtin "object.__class__") = some true)
    (L0 : look K CI f0 [.type "ValueError", .type "Exception", .type "BaseException", .type "object"] "ValueError.__new__" ["value"] = true)
    (L1 : look K CU f1 [.type "RuntimeError", .type "Exception", .type "BaseException", .type "object"] "RuntimeError.__new__" [] = true)
    (kk : kits K CI CU CP C1 C2 C3 = true) :
    ∃ fd : FuncData, (∀ (s : Shared) (v : Value), BindsTo s fd ⟨[v], []⟩ [("_law_script", v)]) ∧ ∀ base : Heap, K.In base → base.Ns mainGlobals mg → FnG l.prog w K mg base CX0 6 fa fd ["_law_script"] (spLaw K) := by
  have e := hfa.symm.trans (PySem.W.mg_of X G ad22)
  cases e
  have Fd0 := fun_mk (st := s_is_integer) ld0 cd0 kd0
  have bd0 := Fd0.binds (ps := ["value"]) fun _ _ _ _ _ _ us hl => match us, hl with | [_], _ => rfl
  have gd0 := PySem.W.mg_of X G ad0
  have Fd1 := fun_mk (st := s_is_letters) ld1 cd1 kd1
  have bd1 := Fd1.binds (ps := ["value"]) fun _ _ _ _ _ _ us hl => match us, hl with | [_], _ => rfl
  have gd1 := PySem.W.mg_of X G ad1
  have Fd2 := fun_mk (st := s_is_value) ld2 cd2 kd2
  have bd2 := Fd2.binds (ps := ["value"]) fun _ _ _ _ _ _ us hl => match us, hl with | [_], _ => rfl
  have gd2 := PySem.W.mg_of X G ad2
  have Fd3 := fun_mk (st := s_kind_of_value) ld3 cd3 kd3
  have bd3 := Fd3.binds (ps := ["value"]) fun _ _ _ _ _ _ us hl => match us, hl with | [_], _ => rfl
  have gd3 := PySem.W.mg_of X G ad3
  have Fd4 := fun_mk (st := s_sign_between) ld4 cd4 kd4
  have bd4 := Fd4.binds (ps := ["one", "other"]) fun _ _ _ _ _ _ us hl => match us, hl with | [_, _], _ => rfl
  have gd4 := PySem.W.mg_of X G ad4
  have Fd5 := fun_mk (st := s_weak_order_of) ld5 cd5 kd5
  have bd5 := Fd5.binds (ps := ["values"]) fun _ _ _ _ _ _ us hl => match us, hl with | [_], _ => rfl
  have gd5 := PySem.W.mg_of X G ad5
  have Fd6 := fun_mk (st := s_pair_sign) ld6 cd6 kd6
  have bd6 := Fd6.binds (ps := ["ranks", "first", "second"]) fun _ _ _ _ _ _ us hl => match us, hl with | [_, _, _], _ => rfl
  have gd6 := PySem.W.mg_of X G ad6
  have Fd7 := fun_mk (st := s_signs_fit) ld7 cd7 kd7
  have bd7 := Fd7.binds (ps := ["one", "other", "both"]) fun _ _ _ _ _ _ us hl => match us, hl with | [_, _, _], _ => rfl
  have gd7 := PySem.W.mg_of X G ad7
  have Fd8 := fun_mk (st := s__law_rng) ld8 cd8 kd8
  have bd8 := Fd8.binds (ps := ["_law_script", "_law_k"]) fun _ _ _ _ _ _ us hl => match us, hl with | [_, _], _ => rfl
  have gd8 := PySem.W.mg_of X G ad8
  have Fd9 := fun_mk (st := s__law_draw) ld9 cd9 kd9
  have bd9 := Fd9.binds (ps := ["_law_rng_here", "_law_many"]) fun _ _ _ _ _ _ us hl => match us, hl with | [_, _], _ => rfl
  have gd9 := PySem.W.mg_of X G ad9
  have Fd10 := fun_mk (st := s__law_choice) ld10 cd10 kd10
  have bd10 := Fd10.binds (ps := ["_law_rng_here", "_law_options"]) fun _ _ _ _ _ _ us hl => match us, hl with | [_, _], _ => rfl
  have gd10 := PySem.W.mg_of X G ad10
  have Fd11 := fun_mk (st := s__law_number) ld11 cd11 kd11
  have bd11 := Fd11.binds (ps := ["_law_rng_here"]) fun _ _ _ _ _ _ us hl => match us, hl with | [_], _ => rfl
  have gd11 := PySem.W.mg_of X G ad11
  have Fd12 := fun_mk (st := s__law_text) ld12 cd12 kd12
  have bd12 := Fd12.binds (ps := ["_law_rng_here"]) fun _ _ _ _ _ _ us hl => match us, hl with | [_], _ => rfl
  have gd12 := PySem.W.mg_of X G ad12
  have Fd13 := fun_mk (st := s__law_things) ld13 cd13 kd13
  have bd13 := Fd13.binds (ps := ["_law_rng_here"]) fun _ _ _ _ _ _ us hl => match us, hl with | [_], _ => rfl
  have gd13 := PySem.W.mg_of X G ad13
  have Fd14 := fun_mk (st := s__law_kind) ld14 cd14 kd14
  have bd14 := Fd14.binds (ps := ["_law_thing"]) fun _ _ _ _ _ _ us hl => match us, hl with | [_], _ => rfl
  have gd14 := PySem.W.mg_of X G ad14
  have Fd15 := fun_mk (st := s__law_due) ld15 cd15 kd15
  have bd15 := Fd15.binds (ps := ["_law_some"]) fun _ _ _ _ _ _ us hl => match us, hl with | [_], _ => rfl
  have gd15 := PySem.W.mg_of X G ad15
  have Fd16 := fun_mk (st := s__law_told) ld16 cd16 kd16
  have bd16 := Fd16.binds (ps := ["_law_some", "_law_is_named"]) fun _ _ _ _ _ _ us hl => match us, hl with | [_, _], _ => rfl
  have gd16 := PySem.W.mg_of X G ad16
  have Fd17 := fun_mk (st := s__law_sign) ld17 cd17 kd17
  have bd17 := Fd17.binds (ps := ["_law_a", "_law_b"]) fun _ _ _ _ _ _ us hl => match us, hl with | [_, _], _ => rfl
  have gd17 := PySem.W.mg_of X G ad17
  have Fd18 := fun_mk (st := s__law_signs_right) ld18 cd18 kd18
  have bd18 := Fd18.binds (ps := ["_law_some", "_law_row"]) fun _ _ _ _ _ _ us hl => match us, hl with | [_, _], _ => rfl
  have gd18 := PySem.W.mg_of X G ad18
  have Fd19 := fun_mk (st := s__law_stretched) ld19 cd19 kd19
  have bd19 := Fd19.binds (ps := ["_law_some"]) fun _ _ _ _ _ _ us hl => match us, hl with | [_], _ => rfl
  have gd19 := PySem.W.mg_of X G ad19
  have Fd20 := fun_mk (st := s__law_right) ld20 cd20 kd20
  have bd20 := Fd20.binds (ps := ["_law_some", "_law_is_named"]) fun _ _ _ _ _ _ us hl => match us, hl with | [_, _], _ => rfl
  have gd20 := PySem.W.mg_of X G ad20
  have Fd21 := fun_mk (st := s__law_fit) ld21 cd21 kd21
  have bd21 := Fd21.binds (ps := ["_law_a", "_law_b", "_law_c"]) fun _ _ _ _ _ _ us hl => match us, hl with | [_, _, _], _ => rfl
  have gd21 := PySem.W.mg_of X G ad21
  have Fd22 := fun_mk (st := s_law) ld22 cd22 kd22
  have bd22 := Fd22.binds (ps := ["_law_script"]) fun _ _ _ _ _ _ us hl => match us, hl with | [_], _ => rfl
  have gd22 := PySem.W.mg_of X G ad22
  have T : Blt mg := ⟨PySem.W.mg_none_of X G z_len, PySem.W.mg_none_of X G z_max, PySem.W.mg_none_of X G z_min, PySem.W.mg_none_of X G z_abs, PySem.W.mg_none_of X G z_int, PySem.W.mg_none_of X G z_divmod, PySem.W.mg_none_of X G z_range, PySem.W.mg_none_of X G z_isinstance, PySem.W.mg_none_of X G z_repr, PySem.W.mg_none_of X G z_all, PySem.W.mg_none_of X G z_any, PySem.W.mg_none_of X G z_bool, PySem.W.mg_none_of X G z_str, PySem.W.mg_none_of X G z_set, PySem.W.mg_none_of X G z_sorted, PySem.W.mg_none_of X G z_enumerate, PySem.W.mg_none_of X G z_list, PySem.W.mg_none_of X G z_tuple, PySem.W.mg_none_of X G z_ValueError, PySem.W.mg_none_of X G z_RuntimeError⟩
  unfold kits at kk
  simp only [Bool.and_eq_true, decide_eq_true_eq] at kk
  obtain ⟨q0, q1, q2, q3, q4, q5, q6, q7, q8, q9⟩ := kk
  have U : Cst mg := ⟨⟨tL, PySem.W.mg_of X G zL⟩, ⟨tM, PySem.W.mg_of X G zM⟩⟩
  have Z : Cls K mg CI CU CP C1 C2 C3 := ⟨PySem.W.mg_of X G aCP, PySem.W.mg_of X G aC1, PySem.W.mg_of X G aC2, PySem.W.mg_of X G aC3, PySem.W.mg_of X G a0, PySem.W.mg_of X G a1, (look_ok L0).xc g1 g2, (look_ok L1).xc g1 g2, q0, q1, q2, q3, q4, q5, q6, q7, q8, q9, (look_ok L0).no _ (by decide +kernel)⟩
  refine ⟨PySem.W.fnOf "law" "law" (defArgs s_law) (defBody s_law) (defScope s_law) .none kVd22 dcd22 pmd22 and22 cvd22 ctd22, fun s v => .of_eq rfl, fun base _ _ => ?_⟩
  have OCI : Own l.prog w K mg base "InvalidValue" CI ["value"] := own0 (fun_mk (st := si0) l0 c0 k0) (PySem.W.mg_of X G a0) i0 (look_ok L0)
  have OCU : Own l.prog w K mg base "Unlike" CU [] := own1 (fun_mk (st := si1) l1 c1 k1) (PySem.W.mg_of X G a1) i1 (look_ok L1)
  have Gval := ok_value (P := l.prog) (w := w) (base := base) Fd2 T U Fd0 bd0 gd0 Fd1 bd1 gd1
  have Gwk := ok_weak Fd5 OCI OCU Fd2 bd2 gd2 Gval Fd3 bd3 gd3 T
  have kb1 : ∀ (s : Shared) (ws : List Value), K.In s.heap → ws.length = 1 → BindsTo s _ ⟨[], (["values"] : List Str).zip ws⟩ ((["values"] : List Str).zip ws) := fun s ws _ hl => match ws, hl with | [_], _ => .of_eq (fd := PySem.W.fnOf "weak_order_of" "weak_order_of" (defArgs s_weak_order_of) (defBody s_weak_order_of) (defScope s_weak_order_of) .none kVd5 dcd5 pmd5 and5 cvd5 ctd5) rfl
  have kb2 : ∀ (s : Shared) (ws : List Value), K.In s.heap → (flip3 ws).length = 3 → BindsTo s _ ⟨[], (["second", "first", "ranks"] : List Str).zip ws⟩ ((["ranks", "first", "second"] : List Str).zip (flip3 ws)) := fun s ws _ hl => match ws, hl with | [_, _, _], _ => .of_eq (fd := PySem.W.fnOf "pair_sign" "pair_sign" (defArgs s_pair_sign) (defBody s_pair_sign) (defScope s_pair_sign) .none kVd6 dcd6 pmd6 and6 cvd6 ctd6) rfl
  have kb3 : ∀ (s : Shared) (ws : List Value), K.In s.heap → (flip3 ws).length = 3 → BindsTo s _ ⟨[], (["both", "other", "one"] : List Str).zip ws⟩ ((["one", "other", "both"] : List Str).zip (flip3 ws)) := fun s ws _ hl => match ws, hl with | [_, _, _], _ => .of_eq (fd := PySem.W.fnOf "signs_fit" "signs_fit" (defArgs s_signs_fit) (defBody s_signs_fit) (defScope s_signs_fit) .none kVd7 dcd7 pmd7 and7 cvd7 ctd7) rfl
  have Gdue := ok_due (P := l.prog) (w := w) (base := base) Fd15 T Fd14 bd14 gd14
  have Gtold := ok_told Fd16 T Z Fd5 bd5 gd5 Gwk kb1
  have Gsig := ok_signs (P := l.prog) (w := w) (base := base) Fd18 T Fd6 bd6 gd6 kb2 Fd4 bd4 gd4 Fd17 bd17 gd17
  have Gth := ok_things (P := l.prog) (w := w) (base := base) Fd13 T Fd9 bd9 gd9 Fd10 bd10 gd10 Fd11 bd11 gd11 Fd12 bd12 gd12
  have Gr := ok_right Fd20 T Fd15 bd15 gd15 Gdue Fd16 bd16 gd16 Gtold Fd5 bd5 gd5 Gwk Fd19 bd19 gd19 Fd18 bd18 gd18 Gsig
  exact ok_law Fd22 T Fd8 bd8 gd8 Fd9 bd9 gd9 Fd13 bd13 gd13 Gth Fd20 bd20 gd20 Gr Fd7 bd7 gd7 kb3 Fd21 bd21 gd21 Fd17 bd17 gd17
end K15

set_option Elab.async false
set_option maxRecDepth 100000
set_option maxHeartbeats 0
section
open PySem PySem.W PyProof.Rows
open_top head_k15 for PySem.Challenge.rw_pairsigns_k15_whole_ranks_and_fitting_si
end
open PySem PySem.W PyProof.Rows
set_option maxRecDepth 100000 in
set_option maxHeartbeats 0 in
theorem PySem.Challenge.cw_pairsigns_k15_whole_ranks_and_fitting_si_holds : PySem.Challenge.rw_pairsigns_k15_whole_ranks_and_fitting_si.Holds :=
  head_k15 (by
  k_fill
  refine PSG.walkG (l := PySem.Challenge.rw_pairsigns_k15_whole_ranks_and_fitting_si) (m := 63) (n := 6) (x := "_law_script") (CT := fun _ => L2.CX0) (sp := fun w => K15.spLaw _) rfl (by decide) rfl ⟨rfl, by decide, by decide⟩ (fun w h Y => PySem.W.kIn_of Y) ?F (fun _ _ a ns hl _ hS => ⟨a, ns, rfl, hS, hl, fun _ => rfl⟩) (fun _ _ _ _ _ h => h)
  case F =>
    intro w mg fa h KX G hmg
    refine' K15.all_mk KX G hmg ?a0 ?i0 ?l0 ?c0 ?k0 ?a1 ?i1 ?l1 ?c1 ?k1 ?aCP ?aC1 ?aC2 ?aC3 ?ad0 ?ld0 ?cd0 ?kd0 ?ad1 ?ld1 ?cd1 ?kd1 ?ad2 ?ld2 ?cd2 ?kd2 ?ad3 ?ld3 ?cd3 ?kd3 ?ad4 ?ld4 ?cd4 ?kd4 ?ad5 ?ld5 ?cd5 ?kd5 ?ad6 ?ld6 ?cd6 ?kd6 ?ad7 ?ld7 ?cd7 ?kd7 ?ad8 ?ld8 ?cd8 ?kd8 ?ad9 ?ld9 ?cd9 ?kd9 ?ad10 ?ld10 ?cd10 ?kd10 ?ad11 ?ld11 ?cd11 ?kd11 ?ad12 ?ld12 ?cd12 ?kd12 ?ad13 ?ld13 ?cd13 ?kd13 ?ad14 ?ld14 ?cd14 ?kd14 ?ad15 ?ld15 ?cd15 ?kd15 ?ad16 ?ld16 ?cd16 ?kd16 ?ad17 ?ld17 ?cd17 ?kd17 ?ad18 ?ld18 ?cd18 ?kd18 ?ad19 ?ld19 ?cd19 ?kd19 ?ad20 ?ld20 ?cd20 ?kd20 ?ad21 ?ld21 ?cd21 ?kd21 ?ad22 ?ld22 ?cd22 ?kd22 ?z_len ?z_max ?z_min ?z_abs ?z_int ?z_divmod ?z_range ?z_isinstance ?z_repr ?z_all ?z_any ?z_bool ?z_str ?z_set ?z_sorted ?z_enumerate ?z_list ?z_tuple ?z_ValueError ?z_RuntimeError ?zL ?zM ?g1 ?g2 ?L0 ?L1 ?kk
    (case a0 => k_is)
    (case i0 => k_is)
    (case l0 => k_is)
    (case c0 => k_is)
    (case k0 => k_is)
    (case a1 => k_is)
    (case i1 => k_is)
    (case l1 => k_is)
    (case c1 => k_is)
    (case k1 => k_is)
    (case aCP => k_is)
    (case aC1 => k_is)
    (case aC2 => k_is)
    (case aC3 => k_is)
    (case ad0 => k_is)
    (case ld0 => k_is)
    (case cd0 => k_is)
    (case kd0 => k_is)
    (case ad1 => k_is)
    (case ld1 => k_is)
    (case cd1 => k_is)
    (case kd1 => k_is)
    (case ad2 => k_is)
    (case ld2 => k_is)
    (case cd2 => k_is)
    (case kd2 => k_is)
    (case ad3 => k_is)
    (case ld3 => k_is)
    (case cd3 => k_is)
    (case kd3 => k_is)
    (case ad4 => k_is)
    (case ld4 => k_is)
    (case cd4 => k_is)
    (case kd4 => k_is)
    (case ad5 => k_is)
    (case ld5 => k_is)
    (case cd5 => k_is)
    (case kd5 => k_is)
    (case ad6 => k_is)
    (case ld6 => k_is)
    (case cd6 => k_is)
    (case kd6 => k_is)
    (case ad7 => k_is)
    (case ld7 => k_is)
    (case cd7 => k_is)
    (case kd7 => k_is)
    (case ad8 => k_is)
    (case ld8 => k_is)
    (case cd8 => k_is)
    (case kd8 => k_is)
    (case ad9 => k_is)
    (case ld9 => k_is)
    (case cd9 => k_is)
    (case kd9 => k_is)
    (case ad10 => k_is)
    (case ld10 => k_is)
    (case cd10 => k_is)
    (case kd10 => k_is)
    (case ad11 => k_is)
    (case ld11 => k_is)
    (case cd11 => k_is)
    (case kd11 => k_is)
    (case ad12 => k_is)
    (case ld12 => k_is)
    (case cd12 => k_is)
    (case kd12 => k_is)
    (case ad13 => k_is)
    (case ld13 => k_is)
    (case cd13 => k_is)
    (case kd13 => k_is)
    (case ad14 => k_is)
    (case ld14 => k_is)
    (case cd14 => k_is)
    (case kd14 => k_is)
    (case ad15 => k_is)
    (case ld15 => k_is)
    (case cd15 => k_is)
    (case kd15 => k_is)
    (case ad16 => k_is)
    (case ld16 => k_is)
    (case cd16 => k_is)
    (case kd16 => k_is)
    (case ad17 => k_is)
    (case ld17 => k_is)
    (case cd17 => k_is)
    (case kd17 => k_is)
    (case ad18 => k_is)
    (case ld18 => k_is)
    (case cd18 => k_is)
    (case kd18 => k_is)
    (case ad19 => k_is)
    (case ld19 => k_is)
    (case cd19 => k_is)
    (case kd19 => k_is)
    (case ad20 => k_is)
    (case ld20 => k_is)
    (case cd20 => k_is)
    (case kd20 => k_is)
    (case ad21 => k_is)
    (case ld21 => k_is)
    (case cd21 => k_is)
    (case kd21 => k_is)
    (case ad22 => k_is)
    (case ld22 => k_is)
    (case cd22 => k_is)
    (case kd22 => k_is)
    (case z_len => k_is)
    (case z_max => k_is)
    (case z_min => k_is)
    (case z_abs => k_is)
    (case z_int => k_is)
    (case z_divmod => k_is)
    (case z_range => k_is)
    (case z_isinstance => k_is)
    (case z_repr => k_is)
    (case z_all => k_is)
    (case z_any => k_is)
    (case z_bool => k_is)
    (case z_str => k_is)
    (case z_set => k_is)
    (case z_sorted => k_is)
    (case z_enumerate => k_is)
    (case z_list => k_is)
    (case z_tuple => k_is)
    (case z_ValueError => k_is)
    (case z_RuntimeError => k_is)
    (case zL => k_is)
    (case zM => k_is)
    (case g1 => k_is)
    (case g2 => k_is)
    (case L0 => kernel_rfl)
    (case L1 => kernel_rfl)
    (case kk => kernel_rfl))
