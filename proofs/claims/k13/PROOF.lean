import PyProof.Rows.All
import Wide.All
import OpenK.AllK
import Wide.FinOn
import HandS.Base
import HandS.Call
import HandS.List
import HandS.Comp
import HandS.Dict
import HandS.Iter
import HandS.Text
import HandS.Ends
import HandS.Exc
import HandS.ExcOwn
import HandS.TryOnly
import HandS.TryMany
import HandS.ExcInit
import HandS.ExcField
import HandS.ExcIs
import HandS.IsInst
import HandS.WideBits
import HandS.ForMost
import HandS.WordsExc
import KE.KTryMore
import KE.KExcHand
import KE.KExcInit
import HandS.Small
import HandS.SetFor
import HandS.Zip
import PyProof.Draws
import PyProof.EnumMake
import HandS.HotCalls
import HandS.ExcInitHot
import HandS.Replace
import PyProof.TupleCall
import PyProof.CollectStr
import HandS.Deep
import PySem.Challenge.RW_pairsigns_k13_vectors_and_texts
set_option linter.all false
set_option Elab.async false
set_option linter.all false
set_option maxRecDepth 100000
set_option maxHeartbeats 4000000
namespace PSG
open PySem PySem.Spec PyProof.Rows L2
/-! ### promises of defs that know that no repr is under way -/
structure FnG (P : Program) (w : World) (K : PySem.W.Frag) (mg : Str → Option Value) (base : Heap) (CT : CXT) (n : Nat) (at_ : Addr) (fd : FuncData) (ps : List Str) (sp : Sp) : Prop where
  many : ∀ vs H Q E, sp vs H Q E → vs.length = ps.length
  goes : ∀ (B : Around) (up : List Env) (s : Shared) (H : Hp) (ar : Args) (us : List Value) (vs : List V) (Q : VK) (E : XK),
    Room n B → B.guards = some [] → Env0 P w K mg base B up s H →
    BindsTo s fd ar (ps.zip us) → Vals vs us → sp vs H Q E →
    codeAny (model P w) B (.call (.ref at_) ar) (CR CT up P w H s Q E) s
section
variable {P : Program} {w : World} {K : PySem.W.Frag} {mg : Str → Option Value} {base : Heap} {CT : CXT}
theorem FnG.of {n : Nat} {at_ : Addr} {fd : FuncData} {ps : List Str} {sp : Sp} (F : FnOk P w K mg base CT n at_ fd ps sp) : FnG P w K mg base CT n at_ fd ps sp :=
  ⟨F.len, fun B up s H ar us vs Q E r _ => F.run B up s H ar us vs Q E r⟩
theorem fnG {n : Nat} {at_ : Addr} {nm ql : Str} {pa : Arguments} {bd : List Stmt} {sc : Scope} {dv kv dc pm cv ct oc : Value} {an od : Option Addr}
    {sl : Array (Option Value)} {N ps : List Str} {sp : Sp}
    (found : K.lookup at_ = some ⟨oc, od, .func (PySem.W.fnOf nm ql pa bd sc dv kv dc pm an cv ct), sl⟩)
    (code : PySem.W.codeIn K cv ql = true) (S : FnScope N ps sc) (many : ∀ vs H Q E, sp vs H Q E → vs.length = ps.length)
    (main : ∀ (B : Around) (up : List Env) (s : Shared) (H : Hp) (vs : List V) (Q : VK) (E : XK),
      Room n (B.deeper (envOfC ql sc s.heap.objs.size at_ cv)) → B.guards = some [] → sp vs H Q E →
      ∃ t, PSs (cxOf CT P w K mg base N ql sc at_ cv B up s H E) bd t ∧ t { nx := fun _ G => Q .non G, rt := Q } (start N vs) H) :
    FnG P w K mg base CT (n + 1) at_ (PySem.W.fnOf nm ql pa bd sc dv kv dc pm an cv ct) ps sp where
  many := many
  goes := by
    intro B up s H ar us vs Q E room gd en bi va ho
    have keepB : ∀ b o, base.get? b = some o → s.heap.get? b = some o := fun b o z => (en.bs b o z).1
    have atK := en.mod.kin.keeps keepB
    refine codeAny_call_function room.depth (atK _ _ found) rfl S.co S.gen rfl (PySem.W.codeRec_of atK code) (bi _ _ _ _ ?_)
    refine wpAny_newFunctionEnv_cells S.kind (fun y hy => ?_) fun env he t1 x => ?_
    · obtain ⟨n, v⟩ := y
      cases S.par n (List.of_mem_zip hy).1 with
      | inl z => exact .inl z
      | inr z => exact .inr ⟨z, PySem.W.cellsFrom_some _ _ _ (.inl z)⟩
    · cases he
      refine ⟨(en.mod.nolimit.keeps keepB).keeps x.toInCall.keep, codeAny_func ?_⟩
      obtain ⟨t, der, rd⟩ := main B up s H vs Q E (room.deeper _) gd ho
      have J := inv_start (CX := CT) (E := E) S room.hd en (many _ _ _ _ ho) va x
      refine wpAny_mono (der.run [] t1 _ H _ J rd) ?_ fun _ _ z => z
      intro fl t2 z
      cases fl with
      | next =>
        obtain ⟨_, G, J2, q⟩ := z
        exact ⟨V.non, G, J2.os, J2.bare, J2.base, J2.hok, rfl, q⟩
      | ret u =>
        obtain ⟨v, _, G, J2, rel, q⟩ := z
        exact ⟨v, G, J2.os, J2.bare, J2.base, J2.hok, rel, q⟩
      | brk => exact (show False from z.choose_spec.choose_spec.2).elim
      | cont => exact (show False from z.choose_spec.choose_spec.2).elim
end
section
variable {X : Cx} {CT : CXT} {n : Nat} {at_ : Addr} {fd : FuncData} {ps : List Str} {sp : Sp} {dvs : List V} {ds : List Value} {E : XK} {x : Str} {p pos : Pos} {e : Expr} {es : List Expr} {t : TA}
theorem run_g {pins : List (Addr × Obj)} {σ : L2.St} {H : Hp} {s : Shared} {Q : VK} {us : List Value} {vs : List V}
    (F : FnG X.prog X.w X.K X.mg X.base CT n at_ fd ps sp) (room : Room n X.A) (gd : X.A.guards = some []) (bi : Binds X.K fd ps ds) (dv : Vals dvs ds) (pass : Passes CT X E)
    (I : Inv X pins σ H s) (va : Vals vs us) (ho : sp (vs ++ dvs) H Q E) : wpAny (model X.prog X.w) X.A (call (.ref at_) us) (EP X pins σ Q) X.xe s := by
  have va2 := va.append dv
  have many : (us ++ ds).length = ps.length := va2.length.symm.trans (F.many _ _ _ _ ho)
  refine wpAny_call (codeAny_mono (F.goes X.A X.stack s H ⟨us, []⟩ (us ++ ds) (vs ++ dvs) Q E room gd I.env0 (bi s us I.kIn many) va2 ho) ?_)
  intro r t2 z
  match r, z with
  | .error er, z => exact pass pins σ H s er t2 I z
  | .ok (.ret u), z => exact I.after z
theorem pe_callG (F : FnG X.prog X.w X.K X.mg X.base CT n at_ fd ps sp) (room : Room n X.A) (gd : X.A.guards = some []) (hg : Gl X x) (hm : X.mg x = some (.ref at_)) (kp : PySem.W.keepIn X.K (.ref at_) = true)
    (bi : Binds X.K fd ps ds) (dv : Vals dvs ds) (pass : Passes CT X E) (ha : PA X (e :: es) t) (nd : (x == ("__debug__" : Str)) = false := by decide)
    (se : starEach (e :: es) X.env = (false, eval e X.env) :: starEach es X.env := by rfl) (sn : (backTo pos (starEach es X.env)).any (·.1) = false := by rfl) :
    PE X (.Call (.Name x p) (e :: es) [] pos) (tCall sp dvs E t) where
  run := fun pins s σ H Q I ho => wpAny_Call_Name_kw (ld_glob I hg hm (PySem.W.callWith_K (h₀ := X.base) I.ok.mod.kin kp
    (thn (ha.run pos pins s σ H _ I ho) fun us s1 ⟨vs, H1, I1, r, q⟩ => ⟨I1.kIn, run_g F room gd bi dv pass I1 r q⟩) se sn) nd)
end
end PSG

set_option Elab.async false
set_option linter.all false
set_option maxRecDepth 100000
set_option maxHeartbeats 4000000
namespace PSG
open PySem PySem.Spec L2
open PyProof.Rows (IntsAre AllBare)
/-! ### data with flat dicts, and repr -/
/-- a key as data -/
def keyD : Key → PyData
  | .inl i => .int i
  | .inr x => .str x
/-- a value that is no object, as data -/
def flatD : V → Option PyData
  | .non => some .none
  | .bl b => some (.bool b)
  | .int i => some (.int i)
  | .str x => some (.str x)
  | _ => none
mutual
/-- a value that is data, all of it tracked -/
inductive Dt (far : Bool) (H : Hp) : V → PyData → Prop
  | non : Dt far H .non .none
  | bl (b : Bool) : Dt far H (.bl b) (.bool b)
  | int (i : Int) : Dt far H (.int i) (.int i)
  | str (x : Str) : Dt far H (.str x) (.str x)
  | lst {a : Addr} {xs : List V} {ds : List PyData} : H a = some (.lst xs) → (far = true → a ≠ sysModules) → DtAll far H xs ds → Dt far H (.ref a) (.list ds)
  | tup {a : Addr} {xs : List V} {ds : List PyData} : H a = some (.tup xs) → DtAll far H xs ds → Dt far H (.ref a) (.tuple ds)
  | dict {a : Addr} {kvs : List (Key × V)} {kds : List (Key × PyData)} : H a = some (.dK kvs) → Paired (fun p q => p.1 = q.1 ∧ flatD p.2 = some q.2) kvs kds →
      Dt far H (.ref a) (.dict (kds.map fun q => (keyD q.1, q.2)))
inductive DtAll (far : Bool) (H : Hp) : List V → List PyData → Prop
  | nil : DtAll far H [] []
  | cons {v : V} {vs : List V} {d : PyData} {ds : List PyData} : Dt far H v d → DtAll far H vs ds → DtAll far H (v :: vs) (d :: ds)
end
mutual
def hasList : PyData → Bool
  | .list _ => true
  | .tuple xs => hasListAll xs
  | _ => false
def hasListAll : List PyData → Bool
  | [] => false
  | x :: xs => hasList x || hasListAll xs
end
theorem flat_reads {h : Heap} {v : V} {u : Value} {d : PyData} (e : flatD v = some d) (r : RelV v u) : Reads h u d [] := by
  cases v with
  | non => cases e; cases r; exact .none
  | bl b => cases e; cases r; exact .bool b
  | int i => cases e; obtain ⟨t, rfl⟩ := r; exact .int i t
  | str x => cases e; obtain ⟨t, rfl⟩ := r; exact .str x t
  | byt _ => cases e
  | flt _ => cases e
  | ref _ => cases e
  | ty _ => cases e
theorem key_reads {h : Heap} {k : Key} {u : Value} (e : keyIs k u = true) : Reads h u (keyD k) [] := by
  rcases keyIs_shape e with ⟨i, t, rfl, rfl⟩ | ⟨x, t, rfl, rfl⟩
  · exact .int i t
  · exact .str x t
theorem dict_reads {P : Program} {w : World} {h : Heap} : ∀ {kvs : List (Key × V)} {kds : List (Key × PyData)} {vs : List (Key × Value)} {es : List DictEntry},
    Paired (fun p q => p.1 = q.1 ∧ flatD p.2 = some q.2) kvs kds → KV kvs vs → Pairs (mixKind P w) es vs →
    ReadsAll h (es.map (·.key)) ((kds.map fun q => (keyD q.1, q.2)).map (·.1)) [] ∧ ReadsAll h (es.map (·.val)) ((kds.map fun q => (keyD q.1, q.2)).map (·.2)) []
  | _, _, _, _, .nil, .nil, .nil => ⟨.nil, .nil⟩
  | _, _, _, _, .cons ⟨e1, f⟩ t1, .cons ⟨e2, r⟩ t2, .cons k v t3 => by
    obtain ⟨i1, i2⟩ := dict_reads (h := h) t1 t2 t3
    have k' : keyIs _ _ = true := k
    rw [← e2, e1] at k'
    refine ⟨ReadsAll.cons (as := []) (key_reads k') i1, ReadsAll.cons (as := []) ?_ i2⟩
    dsimp only
    rw [v]
    exact flat_reads f r
section
variable {X : Cx} {pins : List (Addr × Obj)} {σ : L2.St} {H : Hp} {s : Shared}
mutual
/-- such data is read; where it has no list, sys.modules is not within -/
theorem Dt.reads {far : Bool} (I : Inv X pins σ H s) : ∀ {d : PyData} {v : V} {u : Value}, Dt far H v d → RelV v u → ∃ as, Reads s.heap u d as ∧ ((far = true ∨ hasList d = false) → sysModules ∉ as)
  | _, _, _, .non, r => by cases r; exact ⟨_, .none, fun _ m => nomatch m⟩
  | _, _, _, .bl b, r => by cases r; exact ⟨_, .bool b, fun _ m => nomatch m⟩
  | _, _, _, .int i, r => by obtain ⟨t, rfl⟩ := r; exact ⟨_, .int i t, fun _ m => nomatch m⟩
  | _, _, _, .str x, r => by obtain ⟨t, rfl⟩ := r; exact ⟨_, .str x t, fun _ m => nomatch m⟩
  | _, _, _, .lst (a := a) (xs := xs) e fr t, r => by
    cases r
    obtain ⟨_, its, n, rv, ho⟩ := I.hok a (.lst xs) e
    obtain ⟨as, z, n1⟩ := DtAll.reads I t rv
    refine ⟨_, Reads.list ho rfl rfl z, fun no m => ?_⟩
    rcases no with no | no
    · rcases List.mem_cons.mp m with m | m
      · exact fr no m.symm
      · exact n1 (.inl no) m
    · simp [hasList] at no
  | _, _, _, .tup (a := a) (xs := xs) e t, r => by
    cases r
    obtain ⟨_, its, rv, o, ho, hc, n, hd⟩ := I.hok a (.tup xs) e
    obtain ⟨as, z, no⟩ := DtAll.reads I t rv
    exact ⟨_, Reads.tuple ho hc hd z, fun q => no (by simpa [hasList] using q)⟩
  | _, _, _, .dict (a := a) (kvs := kvs) e pr, r => by
    cases r
    obtain ⟨_, low, vs, kv, o, es, ep, ho, hx, hd, _, pa, _⟩ := dk_of I.hok e
    obtain ⟨z1, z2⟩ := dict_reads (h := s.heap) pr kv pa
    refine ⟨_, Reads.dict ho hx.1 hd z1 z2, fun _ m => ?_⟩
    rw [List.mem_append] at m
    rcases m with m | m
    · rcases List.mem_cons.mp m with m | m
      · rw [← m] at low
        simp at low
      · cases m
    · cases m
theorem DtAll.reads {far : Bool} (I : Inv X pins σ H s) : ∀ {ds : List PyData} {vs : List V} {us : List Value}, DtAll far H vs ds → Vals vs us → ∃ as, ReadsAll s.heap us ds as ∧ ((far = true ∨ hasListAll ds = false) → sysModules ∉ as)
  | _, _, _, .nil, r => by cases r; exact ⟨_, .nil, fun _ m => nomatch m⟩
  | _, _, _, .cons h t, r => by
    cases r with
    | cons r1 r2 =>
      obtain ⟨as, z1, n1⟩ := Dt.reads I h r1
      obtain ⟨bs, z2, n2⟩ := DtAll.reads I t r2
      refine ⟨_, .cons z1 z2, fun no m => ?_⟩
      simp only [hasListAll, Bool.or_eq_false_iff] at no
      rcases List.mem_append.mp m with m | m
      · exact n1 (no.imp id And.left) m
      · exact n2 (no.imp id And.right) m
end
end
/-- repr(x) of data -/
def rRep : List V → Hp → VK → Prop := fun xs H Q => ∃ x d far, xs = [x] ∧ Dt far H x d ∧ (d.hasDict = true → far = true ∨ hasList d = false) ∧ d.showable = true ∧ d.shown.length ≤ sizeLine ∧ d.depth ≤ 60 ∧ Q (.str d.shown) H
section
variable {X : Cx}
theorem call_repr {n : Nat} (room : Room n X.A) (gd : X.A.guards = some []) : CallR X (.builtin "repr") rRep := by
  intro pins s σ H xs us Q I r ho
  obtain ⟨x, d, far, rfl, dq, cl, sh, sz, dp, q⟩ := ho
  cases r with
  | @cons _ u _ ws rx rr =>
    cases rr
    obtain ⟨as, rd, no1⟩ := dq.reads I rx
    have nosys : d.hasDict = true → sysModules ∉ as := fun z => no1 (cl z)
    have un := room.un
    cases rd with
    | none =>
      exact P.repr_of_none ⟨.str _, H, I.tok _, ⟨_, rfl⟩, by simpa only [PyData.shown] using q⟩
    | bool b =>
      refine P.repr_of_bool ⟨.str _, H, I.tok _, ⟨_, rfl⟩, ?_⟩
      simp only [PyData.shown] at q
      cases b
      · exact q
      · exact q
    | int i t =>
      exact P.repr_of_int (by simpa [PyData.showable] using sh) ⟨.str _, H, I.tok _, ⟨_, rfl⟩, by simpa only [PyData.shown] using q⟩
    | str z t =>
      simp only [PyData.shown] at q sz
      exact P.repr_of_str ⟨.str _, H, I.tok _, ⟨_, rfl⟩, q⟩ sz
    | list h1 h2 h3 h4 =>
      exact repr_of_reads' (Reads.list h1 h2 h3 h4) sh nosys gd (by omega) (fun _ _ z => z) (fun h' u tk k => ⟨.str _, H, I.kept k, ⟨_, rfl⟩, q⟩) sz
    | tuple h1 h2 h3 h4 =>
      exact repr_of_reads' (Reads.tuple h1 h2 h3 h4) sh nosys gd (by omega) (fun _ _ z => z) (fun h' u tk k => ⟨.str _, H, I.kept k, ⟨_, rfl⟩, q⟩) sz
    | dict h1 h2 h3 h4 h5 =>
      exact repr_of_reads' (Reads.dict h1 h2 h3 h4 h5) sh nosys gd (by omega) (fun _ _ z => z) (fun h' u tk k => ⟨.str _, H, I.kept k, ⟨_, rfl⟩, q⟩) sz
end
/-! ### the law's own end -/
theorem hidT_ns {h : Heap} {H : Hp} {b : Addr} {m : Str → Option Value} (z : h.Ns b m) (free : ∀ (o : Obj) (es : Array DictEntry) (ep : Nat), h.get? b = some o → o.data = .dict es ep → H b = none) : (hidT h H).Ns b m := by
  obtain ⟨o, es, ep, e, d, r⟩ := z
  exact ⟨o, es, ep, hidT_get e (free o es ep e d), d, r⟩
theorem lawG_call {P : Program} {w : World} {K : PySem.W.Frag} {mg mb : Str → Option Value} {CT : CXT} {n : Nat} {fa a : Addr} {fd : FuncData} {x : Str} {sp : Sp} {s₁ : Shared} {vs : List Value} {ns : List Int}
    (atK : K.In s₁.heap) (glob : s₁.heap.Ns mainGlobals mg) (blt : s₁.heap.Ns builtinsNs mb) (boot : ∀ x : Str, x ≠ "__name__" → mb x = bootBuiltins x) (lim : s₁.heap.NoLimit) (gens : s₁.gens = #[])
    (ob : s₁.heap.get? a = some { cls := .type "list", data := .seq vs.toArray }) (nums : IntsAre vs ns) (len : ns.length ≤ sizeLine) (room : Room n callerA)
    (F : ∀ base : Heap, K.In base → base.Ns mainGlobals mg → FnG P w K mg base CT n fa fd [x] sp) (bi : ∀ (s : Shared) (u : Value), BindsTo s fd ⟨[u], []⟩ [(x, u)])
    (ho : ∀ H : Hp, Only H → SqL K H a (ns.map V.int) → sp [.ref a] H (fun v _ => v = .bl true) fun _ _ _ => False)
    (none_out : ∀ H e s', CT [] H s₁ (fun _ _ _ => False) e s' → False) :
    codeAny (model P w) callerA (.call (.ref fa) ⟨[.ref a], []⟩) (fun r s' => r = .ok (.ret (.bool true)) ∧ OldK s₁.heap s'.heap ∧ s'.os = s₁.os ∧ AllBare s'.gens) s₁ := by
  have main : ∀ H : Hp, Only H → SqL K H a (ns.map V.int) → HOk P w H s₁.heap → (∀ b, b ≠ a → H b = none) → (K.lookup a = none ∨ H a = none) →
      codeAny (model P w) callerA (.call (.ref fa) ⟨[.ref a], []⟩) (fun r s' => r = .ok (.ret (.bool true)) ∧ OldK s₁.heap s'.heap ∧ s'.os = s₁.os ∧ AllBare s'.gens) s₁ := by
    intro H only sq hok off at_
    have free : ∀ (b : Addr) (o : Obj) (es : Array DictEntry) (ep : Nat), s₁.heap.get? b = some o → o.data = .dict es ep → H b = none := by
      intro b o es ep e d
      by_cases hb : b = a
      · rw [hb, ob] at e
        cases e
        cases d
      · exact off b hb
    have inB : K.In (hidT s₁.heap H) := by
      intro b o e
      refine hidT_get (atK b o e) ?_
      by_cases hb : b = a
      · rcases at_ with z | z
        · rw [hb, z] at e
          cases e
        · rw [hb]
          exact z
      · exact off b hb
    have nsB : (hidT s₁.heap H).Ns mainGlobals mg := hidT_ns glob (free _)
    obtain ⟨mc, l1, l2⟩ := lim
    have mod : L2.Mod K mg (hidT s₁.heap H) := ⟨inB, nsB, ⟨mb, hidT_ns blt (free _), boot⟩, ⟨mc, hidT_ns l1 (free _), l2⟩⟩
    have en : Env0 P w K mg (hidT s₁.heap H) callerA [] s₁ H :=
      ⟨rfl, mod, fun b o z => of_hidT z, Nat.le_of_eq (hidT_size _ _), trivial, fun b z => (List.not_mem_nil z).elim, hok, .of_eq gens⟩
    refine codeAny_mono ((F _ inB nsB).goes callerA [] s₁ H ⟨[.ref a], []⟩ [.ref a] [.ref a] _ _ room rfl en (bi s₁ (.ref a)) (.cons rfl .nil) (ho H only sq)) ?_
    intro r s' z
    match r, z with
    | .error er, z => exact (none_out H er s' z).elim
    | .ok (.ret u), z =>
      obtain ⟨v, G, os, bare, un, hok', rel, rfl⟩ := z
      cases rel
      refine ⟨rfl, OldK.of_keep fun b o e => ?_, os, bare⟩
      rcases only b with q | ⟨ob2, ys, q⟩
      · exact un.keep b o e q (fun z => List.not_mem_nil z) (fun z => List.not_mem_nil z)
      · have e1 := (hok b _ q).1
        have e2 := (hok' b _ (un.frzs b ob2 _ q)).1
        rw [e] at e1
        cases e1
        exact e2
  cases there : K.lookup a with
  | some o =>
    have e := (atK a o there).symm.trans ob
    cases e
    exact main (fun _ => none) (fun _ => .inl rfl) (.inr ⟨_, vs.toArray, _, there, rfl, rfl, rfl, by rw [List.size_toArray, nums.length]; exact len, by simpa using vals_ints nums⟩) (fun b u z => nomatch z) (fun _ _ => rfl) (.inr rfl)
  | none =>
    refine main (upd (fun _ => none) a (.frz { cls := .type "list", data := .seq vs.toArray } (.lst (ns.map V.int)))) (fun b => ?_) (.inl (.inr ⟨_, upd_same⟩)) (fun b u z => ?_) (fun b hb => upd_ne hb) (.inl there)
    · by_cases hb : b = a
      · rw [hb]
        exact .inr ⟨_, _, upd_same⟩
      · exact .inl (upd_ne hb)
    · by_cases hb : b = a
      · rw [hb, upd_same] at z
        cases z
        rw [hb]
        exact ⟨ob, by rw [List.length_map]; exact len, vs, _, vals_ints nums, ob⟩
      · rw [upd_ne hb] at z
        cases z
theorem walkG {l : PySem.W.OpenLaw} {m n : Nat} {q : Program} {loose : List Str} {XP : (Str → Option Value) → Heap → Prop} {YP : World → Heap → Prop} {d : DefRec} {K : Params → PySem.W.Frag} {CT : World → CXT} {sp : World → Sp} {x : Str}
    (most : l.most = some m) (fits : m ≤ sizeLine) (nodef : d.params.defaults = []) (room : Room n callerA) (inn : ∀ (w : World) (h : Heap), YP w h → (K w.params).In h)
    (F : ∀ (w : World) (mg : Str → Option Value) (fa : Addr) (h : Heap), (K w.params).In h → h.Ns mainGlobals mg → mg d.name = some (.ref fa) →
      ∃ fd : FuncData, (∀ (s : Shared) (u : Value), BindsTo s fd ⟨[u], []⟩ [(x, u)]) ∧ ∀ base : Heap, (K w.params).In base → base.Ns mainGlobals mg → FnG l.prog w (K w.params) mg base (CT w) n fa fd [x] (sp w))
    (ho : ∀ (w : World) (H : Hp) (a : Addr) (ns : List Int), ns.length ≤ m → Only H → SqL (K w.params) H a (ns.map V.int) → sp w [.ref a] H (fun v _ => v = .bl true) fun _ _ _ => False)
    (none_out : ∀ (w : World) (H : Hp) (s : Shared) (e : Value) (s' : Shared), CT w [] H s (fun _ _ _ => False) e s' → False) :
    PySem.W.WalkO q loose XP YP l.row.toRowW d [] (fun f vs => PySem.call f vs) := by
  refine Att.attach_call most nodef ?_
  intro w s₀ s₁ mg mb fa o pm cd doc a vs ns G Y _ _ _ isAt ob nums len gens
  obtain ⟨fd, bi, good⟩ := F w mg fa _ (inn w _ Y) G.T.g isAt
  exact lawG_call (inn w _ Y) G.T.g G.T.b G.T.builtins G.T.nolimit gens ob nums (Nat.le_trans len fits) room good bi (fun H h1 h2 => ho w H a ns len h1 h2) fun H e s' => none_out w H s₁ e s'
end PSG

set_option Elab.async false
set_option linter.all false
set_option maxRecDepth 100000
set_option maxHeartbeats 4000000
namespace PSG
open PySem PySem.Spec L2
open PyProof.Rows (IntsAre AllBare)
/-! ### try with several clauses, names or pairs of names as their classes, with or without «as» -/
theorem upToSlots_more {h h' : Heap} (k : ∀ q o, h.get? q = some o → h'.get? q = some o) : h.UpToSlots h' := fun b o e _ => ⟨o.slots, k b o e⟩
theorem flying_more {base h h' : Heap} {l : List Env} {e : Addr} {Z : Obj → Prop} (x : PySem.HandSPX.FlyingZ base l e Z h) (k : ∀ q o, h.get? q = some o → h'.get? q = some o) : PySem.HandSPX.FlyingZ base l e Z h' := by
  obtain ⟨st, nb, ff, oe, vs, T, oT, ts, he, z, hv, h1, hT, ne, gT, hts, h3⟩ := x
  exact ⟨fun b o q => k b o (st b o q), nb, ff.of_keeps fun b o q _ => ⟨o, k b o q, rfl⟩, oe, vs, T, oT, ts, k _ _ he, z, hv, h1, hT, ne, k _ _ gT, hts, h3⟩
/-- the test of a clause: ok tells of which classes it is answered how -/
def Asks (X : Cx) (t : Expr) (ok : Value → Bool → Prop) : Prop :=
  ∀ (a : Addr) (oe : Obj) (cls : Value) (d : Option Addr) (pn pins : List (Addr × Obj)) (σ : L2.St) (H : Hp) (s : Shared) (Q : Value → Shared → Prop) (E : Value → Shared → Prop) (b : Bool),
    Zc cls d oe → (∃ vs, oe.data = .fields vs) → Inv (X.suite a ((a, oe) :: pn)) pins σ H s → ok cls b →
    (∀ c h' tk, (∀ q o, s.heap.get? q = some o → h'.get? q = some o) → PySem.W.Looks (model X.prog X.w) h' (excMatches (.ref a) c) b → Q c { s with heap := h', toks := tk }) →
    wpAny (model X.prog X.w) (X.A.mark (some (.ref a))) (eval t X.env) Q E s
section
variable {X : Cx}
theorem name_is {x : Str} {c : Value} {np : Pos} (hc : Names X x c) {a : Addr} {pn pins : List (Addr × Obj)} {σ : L2.St} {H : Hp} {s : Shared} {Q : Value → Shared → Prop} {E : Value → Shared → Prop}
    (I : Inv (X.suite a pn) pins σ H s) (q : Q c s) : wpAny (model X.prog X.w) (X.A.mark (some (.ref a))) (eval (.Name x np) X.env) Q E s := by
  obtain ⟨g, nd, m | ⟨m, v, nn⟩⟩ := hc
  · exact ld_glob (X := X.suite a pn) I g m q nd
  · exact ld_blt (X := X.suite a pn) I g m v q nn nd
theorem exc_class {a : Addr} {oe : Obj} {cls : Value} {d : Option Addr} {pn pins : List (Addr × Obj)} {σ : L2.St} {H : Hp} {s : Shared} (z : Zc cls d oe) (I : Inv (X.suite a ((a, oe) :: pn)) pins σ H s) :
    PySem.W.Looks (model X.prog X.w) s.heap (typeOf (.ref a)) cls := fun A Q E s1 k q =>
  wpAny_typeOf_ref (k _ _ (I.pin (a, oe) (List.mem_append_left _ List.mem_cons_self)).1) (by rw [z.1]; exact q)
theorem asks_one {x : Str} {c : Value} {np : Pos} (hc : Names X x c) : Asks X (.Name x np) fun cls b => PySem.W.exmOne X.K cls c = some b := by
  intro a oe cls d pn pins σ H s Q E b z f I e q
  exact name_is hc I (q c s.heap s.toks (fun _ _ z => z) (PySem.W.exm_one (M := model X.prog X.w) I.kIn (exc_class z I) e))
theorem asks_two {x y : Str} {c e : Value} {p1 p2 tp : Pos} {kk : Nat} (hc : Names X x c) (he : Names X y e) : Asks X (.Tuple [.Name x p1, .Name y p2] kk tp) fun cls b => PySem.W.exmAny X.K cls [c, e] = some b := by
  intro a oe cls d pn pins σ H s Q E b z f I ok q
  refine wpAny_Tuple (wpAny_items_cons (name_is hc I (wpAny_items_cons (name_is he I (wpAny_items_nil ⟨by size_fits, ?_⟩)))))
  have more : ∀ q o, s.heap.get? q = some o → (s.heap.push { cls := .type "tuple", data := .seq [c, e].toArray }).get? q = some o := fun _ _ z => Heap.get?_push_of_some _ z
  exact q (.ref s.heap.objs.size) _ s.toks more (PySem.W.exm_tup2 (I.kIn.keeps more) ((exc_class z I).keeps more) (Heap.get?_push_size s.heap rfl) ok)
end
abbrev Cl := (Value → Bool → Prop) × Option Nat × (Addr → Value → Option Addr → TS)
def endsOf (n : Option Nat) (D : Ends) : Ends := match n with
  | none => D
  | some i => { nx := fun σ G => D.nx (σ.set i none) G, rt := D.rt, bk := fun σ G => D.bk (σ.set i none) G, ct := fun σ G => D.ct (σ.set i none) G }
def slotOf (n : Option Nat) (a : Addr) (σ : L2.St) : L2.St := match n with
  | none => σ
  | some i => σ.set i (some (.ref a))
/-- what the clauses wish of an exception of the body -/
def wCl (out : WX) (D : Ends) : List Cl → WX
  | [] => out
  | (ok, n, ts) :: r => fun cls d σ H => ∃ b, ok cls b ∧ (b = true → ∀ a, H a = none → ts a cls d (endsOf n D) (slotOf n a σ) H) ∧ (b = false → wCl out D r cls d σ H)
def SuiteOk (X : Cx) (body : List Stmt) (ts : Addr → Value → Option Addr → TS) : Prop :=
  ∀ (a : Addr) (oe : Obj) (cls : Value) (d : Option Addr) (pn : List (Addr × Obj)), Zc cls d oe → (∃ vs, oe.data = .fields vs) → PSs (X.suite a ((a, oe) :: pn)) body (ts a cls d)
inductive ClOk (X : Cx) : List ExceptHandler → List Cl → Prop
  | nil : ClOk X [] []
  | plain {t : Expr} {ok : Value → Bool → Prop} {ts : Addr → Value → Option Addr → TS} {b₀ : Stmt} {suite : List Stmt} {pos : Pos} {hs : List ExceptHandler} {l : List Cl} :
      Asks X t ok → SuiteOk X (b₀ :: suite) ts → ClOk X hs l → ClOk X (.ExceptHandler (some t) none (b₀ :: suite) pos :: hs) ((ok, none, ts) :: l)
  | named {t : Expr} {ok : Value → Bool → Prop} {i : Nat} {n : Str} {ts : Addr → Value → Option Addr → TS} {b₀ : Stmt} {suite : List Stmt} {pos : Pos} {hs : List ExceptHandler} {l : List Cl} :
      X.N.Nodup → X.N[i]? = some n → X.env.kindOf n = some .local → Asks X t ok → SuiteOk X (b₀ :: suite) ts → ClOk X hs l → ClOk X (.ExceptHandler (some t) (some n) (b₀ :: suite) pos :: hs) ((ok, some i, ts) :: l)
section
variable {X : Cx} {pins : List (Addr × Obj)} {D : Ends} {out : WX}
theorem clauses (ok : X.Ok) (one : X.stack = X.env :: X.outer) (own : X.env.frame = some X.env.locals) (tk : Takes X out) {a : Addr} {B : Heap} {sI : Shared} {σ : L2.St} {H : Hp} {cls : Value} {d : Option Addr}
    (J : Inv X pins σ H sI) (nb : ∀ b o, sI.heap.get? b = some o → b ∉ frs X.stack → B.get? b = some o) (na : H a = none) :
    ∀ {hs : List ExceptHandler} {l : List Cl}, ClOk X hs l → wCl out D l cls d σ H → ∀ s3 : Shared, PySem.HandSPX.FlyingZ B (X.env :: X.outer) a (Zc cls d) s3.heap → sI.heap.UpToSlots s3.heap → s3.os = sI.os → AllBare s3.gens →
      wpAny (model X.prog X.w) X.A (handleBy (.ref a) X.env hs) (SP X pins D) X.xe s3 := by
  intro hs l cl
  -- the exception's object, apart from all frames
  have apart : ∀ {h : Heap}, PySem.HandSPX.FlyingZ B (X.env :: X.outer) a (Zc cls d) h → ∃ oe vs, h.get? a = some oe ∧ Zc cls d oe ∧ oe.data = .fields vs ∧ a ≠ X.env.locals ∧ a ∉ X.fs := by
    intro h fl
    obtain ⟨oe, vs, e, z, dd⟩ := fl.there
    have no : a ∉ frs (X.env :: X.outer) := fun m => by
      obtain ⟨_, o2, e2, nf⟩ := fl.2.2.1.mem m
      rw [e] at e2
      cases e2
      exact nf _ dd
    refine ⟨oe, vs, e, z, dd, fun q => no ?_, fun m => no ?_⟩
    · exact List.mem_filterMap.mpr ⟨X.env, List.mem_cons_self, by rw [own, q]⟩
    · obtain ⟨en, h1, h2⟩ := List.mem_filterMap.mp m
      exact List.mem_filterMap.mpr ⟨en, List.mem_cons_of_mem _ h1, h2⟩
  have landed : ∀ {s3 : Shared}, PySem.HandSPX.FlyingZ B (X.env :: X.outer) a (Zc cls d) s3.heap → sI.heap.UpToSlots s3.heap → s3.os = sI.os → AllBare s3.gens → Inv X pins σ H s3 :=
    fun fl up os ag => J.landed nb fl.1 up os ag
  -- a suite that runs, from the state behind a test that is answered with yes
  have run : ∀ {b₀ : Stmt} {body : List Stmt} {ts : Addr → Value → Option Addr → TS} {σ2 : L2.St} {D2 : Ends} {s4 : Shared} {R : Flow → Shared → Prop} {E : Value → Shared → Prop} {oe : Obj}, SuiteOk X (b₀ :: body) ts →
      Zc cls d oe → (∃ vs, oe.data = .fields vs) → Inv (X.suite a ((a, oe) :: (X.pn ++ pins))) [] σ2 H s4 → ts a cls d D2 σ2 H →
      (∀ f s5, SP (X.suite a ((a, oe) :: (X.pn ++ pins))) [] D2 f s5 → R f s5) → wpAny (model X.prog X.w) (X.A.mark (some (.ref a))) (execs (b₀ :: body) X.env) R E s4 := by
    intro b₀ body ts σ2 D2 s4 R E oe su z f S ho hq
    exact wpAny_mono ((su a oe cls d (X.pn ++ pins) z f).run [] s4 σ2 H D2 S ho) hq fun _ _ z => z.elim
  induction cl with
  | nil =>
    intro w s3 fl up os ag
    refine wpAny_handleBy_nil ?_
    obtain ⟨_, _, _, oe, vs, T, oT, ts, e, _, dd, h1, _⟩ := id fl
    unfold PySem.passOn
    refine wpAny_bind (wpAny_field e dd h1 ?_)
    rw [if_neg (by simp)]
    have last : wpAny (model X.prog X.w) X.A (setFlight (.ref a) X.env.frame) (fun _ s4 => wpAny (model X.prog X.w) X.A (throw (.ref a) : Sem Flow) (SP X pins D) X.xe s4) X.xe s3 := by
      rw [own]
      refine PySem.HandSPX.setFlight_upZ fl fun h4 f4 u4 => wpAny_throw (tk _ _ ⟨a, B, sI, pins, σ, H, cls, d, rfl, J, nb, up.trans u4, .inr (.inr (by rw [one]; exact f4)), na, os, ag, w⟩)
    first
      | exact wpAny_bind last
      | exact wpAny_bind (wpAny_pure (wpAny_bind last))
  | @plain t okc ts b₀ suite pos hs l ask su _ ih =>
    intro w s3 fl up os ag
    obtain ⟨b, hb, yes, no⟩ := w
    obtain ⟨oe, vs, e, z, dd, nL, nF⟩ := apart fl
    have S := (landed fl up os ag).suite e dd na nL nF
    refine PySem.W.exc_clause (ask a oe cls d (X.pn ++ pins) [] σ H s3 _ _ b z ⟨_, dd⟩ S hb fun c h4 t4 k4 lk => ⟨b, lk, ?_⟩)
    have fl4 := flying_more fl k4
    have up4 := up.trans (upToSlots_more k4)
    cases b with
    | false => exact ih (no rfl) { s3 with heap := h4, toks := t4 } fl4 up4 os ag
    | true =>
      rw [if_pos rfl]
      refine PySem.HandSPX.lands_againZ (s := { s3 with heap := h4, toks := t4 }) fl4 fun h5 fl5 up5 => ?_
      obtain ⟨oe5, vs5, e5, z5, dd5, nL5, nF5⟩ := apart fl5
      have S5 := (landed (s3 := { s3 with heap := h5, toks := t4 }) fl5 (up4.trans up5) os ag).suite e5 dd5 na nL5 nF5
      refine run su z5 ⟨_, dd5⟩ S5 (yes rfl a na) fun f s6 hs6 => ?_
      cases f with
      | next => obtain ⟨σ6, H6, S6, q⟩ := hs6; exact ⟨σ6, H6, S6.unsuite ok, q⟩
      | brk => obtain ⟨σ6, H6, S6, q⟩ := hs6; exact ⟨σ6, H6, S6.unsuite ok, q⟩
      | cont => obtain ⟨σ6, H6, S6, q⟩ := hs6; exact ⟨σ6, H6, S6.unsuite ok, q⟩
      | ret u => obtain ⟨v, σ6, H6, S6, r, q⟩ := hs6; exact ⟨v, σ6, H6, S6.unsuite ok, r, q⟩
  | @named t okc i n ts b₀ suite pos hs l nd hi loc ask su _ ih =>
    intro w s3 fl up os ag
    obtain ⟨b, hb, yes, no⟩ := w
    obtain ⟨oe, vs, e, z, dd, nL, nF⟩ := apart fl
    have S := (landed fl up os ag).suite e dd na nL nF
    refine PySem.W.exc_clause_as (ask a oe cls d (X.pn ++ pins) [] σ H s3 _ _ b z ⟨_, dd⟩ S hb fun c h4 t4 k4 lk => ⟨b, lk, ?_⟩)
    have fl4 := flying_more fl k4
    have up4 := up.trans (upToSlots_more k4)
    cases b with
    | false => exact ih (no rfl) { s3 with heap := h4, toks := t4 } fl4 up4 os ag
    | true =>
      rw [if_pos rfl]
      refine PySem.HandSPX.lands_againZ (s := { s3 with heap := h4, toks := t4 }) fl4 fun h5 fl5 up5 => ?_
      obtain ⟨oe5, vs5, e5, z5, dd5, nL5, nF5⟩ := apart fl5
      have S5 := (landed (s3 := { s3 with heap := h5, toks := t4 }) fl5 (up4.trans up5) os ag).suite e5 dd5 na nL5 nF5
      refine store_ok (X := X.suite a ((a, oe5) :: (X.pn ++ pins))) (v := .ref a) S5 nd hi (.inl loc) rfl (fun s6 S6 => ?_) (.inr loc)
      refine run su z5 ⟨_, dd5⟩ S6 (yes rfl a na) fun f s7 hs7 => ?_
      cases f with
      | next => obtain ⟨σ7, H7, S7, q⟩ := hs7; exact gone_ok (S7.unsuite ok) nd hi loc fun s8 J8 => ⟨_, H7, J8, q⟩
      | brk => obtain ⟨σ7, H7, S7, q⟩ := hs7; exact gone_ok (S7.unsuite ok) nd hi loc fun s8 J8 => ⟨_, H7, J8, q⟩
      | cont => obtain ⟨σ7, H7, S7, q⟩ := hs7; exact gone_ok (S7.unsuite ok) nd hi loc fun s8 J8 => ⟨_, H7, J8, q⟩
      | ret u => obtain ⟨v, σ7, H7, S7, r, q⟩ := hs7; exact gone_ok (S7.unsuite ok) nd hi loc fun s8 J8 => ⟨v, _, H7, J8, r, q⟩
theorem ps_tryCl {body : List Stmt} {h₀ : ExceptHandler} {hs : List ExceptHandler} {l : List Cl} {pos : Pos} {tb : WX → TS} (one : X.stack = X.env :: X.outer) (own : X.env.frame = some X.env.locals) (tk : Takes X out)
    (der : ∀ (W : WX) (pn : List (Addr × Obj)) (xe : Value → Shared → Prop), Takes (X.tr pn xe) W → PassesOwn (model X.prog X.w) X.A X.env xe → PSs (X.tr pn xe) body (tb W)) (cl : ClOk X (h₀ :: hs) l) :
    PS X (.Try body (h₀ :: hs) [] [] pos) fun D σ H => tb (wCl out D l) D σ H where
  run := by
    intro pins s σ H D I ho
    have ok := I.ok
    have fr : X.A.frames = some (X.env :: X.outer) := ok.frames.trans (by rw [one])
    refine wpAny_Try_except (wpAny_mono ((der (wCl out D l) (X.pn ++ pins) _ ?_ PassesOwn.looking).run [] s σ H D (I.toTry _) ho) (fun f s1 hs1 => ?_) fun e s1 z => z)
    · intro u s2 xx
      obtain ⟨a, B, sI, pins2, σ2, H2, cls, d, rfl, J2, nb, up, sky, na, os, ag, w⟩ := xx
      have J : Inv X pins σ2 H2 sI := J2.ofTry ok
      have sky2 : Sky B (X.env :: X.outer) a (Zc cls d) X.env.locals s2.heap := by rw [← one]; exact sky
      exact Sky.land Zc.steady fr own sky2 fun h3 fl3 up3 => clauses ok one own tk J nb na cl w { s2 with heap := h3 } fl3 (up.trans up3) os ag
    · cases f with
      | next => obtain ⟨σ1, H1, J, q⟩ := hs1; exact wpAny_execs_nil ⟨σ1, H1, J.ofTry ok, q⟩
      | brk => obtain ⟨σ1, H1, J, q⟩ := hs1; exact ⟨σ1, H1, J.ofTry ok, q⟩
      | cont => obtain ⟨σ1, H1, J, q⟩ := hs1; exact ⟨σ1, H1, J.ofTry ok, q⟩
      | ret u => obtain ⟨v, σ1, H1, J, r, q⟩ := hs1; exact ⟨v, σ1, H1, J.ofTry ok, r, q⟩
end
end PSG

set_option Elab.async false
set_option linter.all false
set_option maxRecDepth 100000
set_option maxHeartbeats 4000000
namespace PySem.W
open PySem PySem.Spec PySem.Calls PyProof.Rows
/-! ### isinstance of an exception of an own class, with or without attributes -/
/-- what the class must say -/
structure XcC (K : Frag) (D : Addr) : Prop where
  get : findIn K (.ref D) "__getattribute__" = some (some (.builtin "BaseException.__getattribute__"))
  get2 : findIn K (.ref D) "__getattr__" = some none
  exc : subIn K (.ref D) (.type "BaseException") = some true
  dict : hasDictIn K D = true
  cls : findIn K (.ref D) "__class__" = some (some (.builtin "object.__class__"))
  desc : specialIn K (.builtin "object.__class__") "__get__" = some (some (.builtin "getset_descriptor.__get__"))
  data : takesIn K (.builtin "object.__class__") = some true
  obj : mroIn K D (.type "object") = some true
theorem XcC.there {K : Frag} {D : Addr} (T : XcC K D) : ∃ o cd, K.lookup D = some o ∧ o.data = .cls cd := by
  obtain ⟨c1, e, _⟩ := any_some T.dict
  unfold clsIn at e
  cases q : K.lookup D with
  | none =>
    rw [q] at e
    cases e
  | some o =>
    obtain ⟨oc, od, dt, sl⟩ := o
    cases dt <;> (rw [q] at e; first | exact ⟨_, _, rfl, rfl⟩ | cases e)
section
variable {prog : Program} {w : World} {A : Around} {E : Value → Shared → Prop} {s : Shared} {K : Frag} {x D : Addr} {ox : Obj} {od : Option Obj}
theorem XcC.asked {Q : Option Value → Shared → Prop} (T : XcC K D) (X : K.In s.heap) (I : InstAt s.heap x ox D od) (ho : Q (some (.ref D)) { s with toks := s.toks + 1 }) :
    wpAny (model prog w) A (getAttr? (.ref x) "__class__") Q E s := by
  have found : findObj K D od "__class__" = some (.bind (.builtin "getset_descriptor.__get__") (.builtin "object.__class__")) := by
    obtain ⟨cd, c, _⟩ := any_some T.dict
    unfold findObj
    simp [c, T.cls, T.desc, T.data]
  obtain ⟨hp, g, dr, t, os⟩ := s
  have k1 := I.type (M := model prog w)
  have k2 := looks_findIn (M := model prog w) X T.get
  have k3 := looks_findIn (M := model prog w) X T.get2
  have k4 := looks_find (M := model prog w) X I found
  have k5 : Looks (model prog w) hp (isInstance (.ref x) (.type "BaseException")) true := k1.andThen (looks_subIn X T.exc)
  have no : (onTheHeap (Value.ref D) && Value.builtin "BaseException.__getattribute__" == Value.builtin "object.__getattribute__") = false := by
    show (Value.builtin "BaseException.__getattribute__" == Value.builtin "object.__getattribute__") = false
    decide +kernel
  have no2 : (false && onTheHeap (Value.builtin "BaseException.__getattribute__")) = false := rfl
  unfold getAttr?
  unfold getAttrBy?
  unfold getAttrBy
  refine wpAny_bind (wpAny_mkText (wpAny_bind (wpAny_attempt (wpAny_holding (wpAny_bind (k1.at (wpAny_bind (k2.at ?_))))))))
  show wpAny _ _ (if (onTheHeap (Value.ref D) && Value.builtin "BaseException.__getattribute__" == Value.builtin "object.__getattribute__") = true then _ else _) _ _ _
  rw [no]
  rw [if_neg (by decide)]
  unfold getAttrByItsOwn
  unfold hookBefore
  refine wpAny_bind ?_
  rw [if_pos (show onTheHeap (.ref D) = true from rfl)]
  refine k3.at (wpAny_bind (wpAny_attempt (wpAny_holding ?_)))
  unfold callGetattribute
  rw [no2]
  rw [if_neg (by decide)]
  unfold boundAndCalled
  rw [F.excAttr_ValueError.ga.bind (.ref x)]
  refine wpAny_bind (wpAny_pure ?_)
  show wpAny _ _ (call (.builtin "BaseException.__getattribute__") [.ref x, .str "__class__" t]) _ _ _
  refine wpAny_call (codeAny_call_builtin F.excAttr_ValueError.ga.plain F.entry_bexc_ga (@check_slot (model prog w) _ _ ⟨hp, g, dr, t + 1, os⟩ "BaseException.__getattribute__" "BaseException" "__getattribute__" (.ref x) [.str "__class__" t] [] _
    (by decide +kernel) (by decide +kernel) k5 (F.args_bexc_ga (.ref x) (.str "__class__" t)) ?_))
  unfold Builtin.«object.__getattribute__»
  refine wpAny_bind (wpAny_of_eq (a := ((Value.ref x : Value), [Value.str "__class__" t])) (by first | rfl | (simp only [slotArgs]; rfl)) (wpAny_bind (wpAny_pure (wpAny_bind (k1.at (wpAny_bind (k4.at ?_)))))))
  show wpAny _ _ (holding [Value.builtin "object.__class__"] (call (.builtin "getset_descriptor.__get__") [.builtin "object.__class__", .ref x, .ref D]) >>= ret) _ _ _
  refine wpAny_bind (wpAny_holding (wpAny_call (class_get (s := ⟨hp, g, dr, t + 1, os⟩) X I T.obj (wpAny_pure ?_))))
  show wpAny _ _ (handedOut (.ref D)) _ _ _
  rw [handedOut_of (v := .ref D) rfl]
  first
    | exact wpAny_pure ho
    | exact wpAny_pure (wpAny_pure ho)
    | exact wpAny_pure (wpAny_bind (wpAny_pure (wpAny_pure ho)))
theorem XcC.kit (T : XcC K D) : KitX K (.ref x) (.ref D) (fun h => ∃ od, InstAt h x ox D od) where
  ty := fun _ _ _ ⟨_, I⟩ => I.type
  it := fun M h X _ => by
    obtain ⟨o, cd, q, dd⟩ := T.there
    intro A2 Q2 E2 s2 k ho
    unfold isType
    unfold loadHead
    exact wpAny_bind (wpAny_loadPart (k _ _ (X _ _ q)) (by rw [dd]; exact wpAny_pure ho))
  ne := fun h tp dd its n sl X at_ => by
    obtain ⟨o, cd, q, d2⟩ := T.there
    cases z : (Value.ref D == Value.ref tp) with
    | false => rfl
    | true =>
      have e : D = tp := Value.ref.inj (beq_iff_eq.mp z)
      rw [← e, X _ _ q] at at_
      cases at_
      cases d2
  ca := fun X ⟨_, I⟩ ho => T.asked X I ho
end
end PySem.W

set_option Elab.async false
set_option linter.all false
set_option maxRecDepth 100000
set_option maxHeartbeats 4000000
/-! ### exceptions of own classes over any built-in base, as values -/
namespace PySem.XV
open PySem PySem.Spec PySem.W PySem.Calls PySem.HandSPX
section
variable {prog : Program} {w : World} {A : Around} {E : Value → Shared → Prop} {R : Result → Shared → Prop} {h : Heap} {g : Array GenState} {d : Drawn} {t : Nat} {os : OsState}
variable {nm q : Str} {C N : Addr} {bs bm bmB : List Value} {hdct : Bool} {sn : List Str} {sub : List Value} {ab : Bool} {col : Option Bool} {dd : Option Addr} {k0 k1 k2 k3 k5 : Option Value} {B newId initId : String}
theorem new_checked {M : Model} (F : ExcBaseFacts B newId initId bmB) (same : ∀ X : String, bm.contains (.type X) = bmB.contains (.type X)) {kw : List (Str × Value)} {Q : Unit → Shared → Prop}
    (at_ : h.get? C = some (excClassObj nm q C N bs bm hdct sn sub ab col dd k0 k1 k2 k3 k5 newId)) (ho : Q () ⟨h, g, d, t, os⟩) : wpAny M A (checkBuiltinCall newId ⟨[.ref C], kw⟩) Q E ⟨h, g, d, t, os⟩ := by
  have cB : (Value.ref C :: bm).contains (.type B) = true := by rw [List.contains_cons, same, F.hasB, Bool.or_true]
  have s0 := F.noStar
  simp only [checkBuiltinCall, F.newKind, F.newSplit, F.newRow]
  repeat (first
    | refine wpAny_loadPart_at at_ ?_
    | (refine wpAny_isSubtype_exc at_ ?_; rw [cB])
    | refine wpAny_staticBase_exc at_ ?_
    | refine wpAny_madeBy_exc at_ ?_
    | simp only [bne_self_eq_false, Bool.false_eq_true, if_false]
    | wp_step)
  exact ho
theorem new_kw (F : ExcBaseFacts B newId initId bmB) (same : ∀ X : String, bm.contains (.type X) = bmB.contains (.type X)) {kw : List (Str × Value)}
    (at_ : h.get? C = some (excClassObj nm q C N bs bm hdct sn sub ab col dd k0 k1 k2 k3 k5 newId))
    (ho : R (.ok (.ret (.ref (h.objs.size + 1)))) ⟨(h.push { cls := .type "tuple", data := .seq #[] }).push { cls := .ref C, data := .fields #[.ref h.objs.size, .none, .none, .none, .bool false, .none] }, g, d, t, os⟩) :
    codeAny (model prog w) A (.builtin newId ⟨[.ref C], kw⟩) R ⟨h, g, d, t, os⟩ := by
  have e0 := F.ends
  have cB : (Value.ref C :: bm).contains (.type B) = true := by rw [List.contains_cons, same, F.hasB, Bool.or_true]
  have cA : (Value.ref C :: bm).contains (.type "AttributeError") = false := by rw [List.contains_cons, same, F.noAttr]; rfl
  have cN : (Value.ref C :: bm).contains (.type "NameError") = false := by rw [List.contains_cons, same, F.noName]; rfl
  refine codeAny_builtinAt F.entry ?_
  unfold Builtin.«BaseException.__new__»
  refine wpAt_bind ?_
  show wpAt _ _ _ (stack >>= _) _ _ _
  refine wpAt_bind (wpAt_stack fun p below => wpAt_of_wpAny ?_)
  wp_walk
  refine wpAt_of_wpAny ?_
  rw [F.owner]
  repeat (first
    | with_reducible refine wpAny_madeHere_exc F.canon at_ ?_
    | with_reducible refine wpAny_loadPart_at at_ ?_
    | (with_reducible refine wpAny_isSubtype_exc at_ ?_; first | rw [cB] | rw [cA] | rw [cN])
    | wp_step)
  show R _ _
  rw [Heap.size_push]
  exact ho
theorem made_kw (F : ExcBaseFacts B newId initId bmB) (same : ∀ X : String, bm.contains (.type X) = bmB.contains (.type X)) {kw : List (Str × Value)} {fI : Addr} {Q : Fin → Shared → Prop}
    (at_ : h.get? C = some (excClassObj nm q C N bs bm hdct sn sub ab col dd k0 k1 k2 k3 k5 newId))
    (hi : W.Looks (model prog w) h (typeLookup (.ref C) "__init__") (some (.ref fI))) (hb : ∀ self, W.Looks (model prog w) h (bindSpecial (.ref fI) self) (.ref fI, [self]))
    (ho : codeAny (model prog w) A (.call (.ref fI) ⟨[.ref (h.objs.size + 1)], kw⟩)
      (fun r s' => match r with | .ok (.ret v) => v = .none ∧ Q (.done (.ret (.ref (h.objs.size + 1)))) s' | .ok _ => False | .error e => E e s')
      ⟨(h.push (W.kdv_tup [])).push (excO C h.objs.size), g, d, t, os⟩) :
    wpAny (model prog w) A (Builtin.«type.__call__» ⟨[.ref C], kw⟩) Q E ⟨h, g, d, t, os⟩ := by
  repeat (first | with_reducible refine wpAny_loadPart_at at_ ?_ | with_reducible refine wpAny_madeBy_exc at_ ?_ | wp_step)
  refine codeAny_call_builtin_code (Code.quiet_builtin _ F.quiet) (new_checked F same at_ (new_kw F same at_ ?_))
  show wpAny _ _ _ _ _ _
  have old : ∀ b o, h.get? b = some o → ((h.push (W.kdv_tup [])).push (excO C h.objs.size)).get? b = some o := fun b o e => Heap.get?_push_of_some _ (Heap.get?_push_of_some _ e)
  have at2 := old _ _ at_
  have new : ((h.push (W.kdv_tup [])).push (excO C h.objs.size)).get? (h.objs.size + 1) = some (excO C h.objs.size) := by heap_get
  have cC : (Value.ref C :: bm).contains (.ref C) = true := by simp
  have i1 := hi.keeps old
  have b1 := (hb (.ref (h.objs.size + 1))).keeps old
  unfold isInstance
  repeat (first | with_reducible refine wpAny_loadPart_at new ?_ | (with_reducible refine wpAny_isSubtype_exc at2 ?_; rw [cC]) | wp_step)
  show wpAny _ _ (typeLookup (.ref C) _) _ _ _
  refine i1.at (wpAny_holding (wpAny_bind (b1.at (wpAny_bind (wpAny_call (codeAny_mono ho fun r s' z => ?_))))))
  rcases r with e | (v | _ | _ | _) <;> first | exact z | exact z.elim | skip
  obtain ⟨rfl, z⟩ := z
  first
    | exact wpAny_pure (wpAny_pure z)
    | (wp_walk; exact z)
theorem call_kw (F : ExcBaseFacts B newId initId bmB) (same : ∀ X : String, bm.contains (.type X) = bmB.contains (.type X)) {kw : List (Str × Value)} {fI : Addr}
    (at_ : h.get? C = some (excClassObj nm q C N bs bm hdct sn sub ab col dd k0 k1 k2 k3 k5 newId))
    (hi : W.Looks (model prog w) h (typeLookup (.ref C) "__init__") (some (.ref fI))) (hb : ∀ self, W.Looks (model prog w) h (bindSpecial (.ref fI) self) (.ref fI, [self]))
    (ho : codeAny (model prog w) (A.under (.builtin "type.__call__" ⟨[.ref C], kw⟩)) (.call (.ref fI) ⟨[.ref (h.objs.size + 1)], kw⟩) (W.InitBack (h.objs.size + 1) R)
      ⟨(h.push (W.kdv_tup [])).push (excO C h.objs.size), g, d, t, os⟩) :
    codeAny (model prog w) A (.call (.ref C) ⟨[], kw⟩) R ⟨h, g, d, t, os⟩ := by
  have f1 := tc_lookup
  have f2 := tc_bind (.ref C)
  have isT : (⟨h, g, d, t, os⟩ : Shared).TypeIs (.ref C) "type" := ⟨_, at_, rfl⟩
  refine codeAny_of_tree ?_
  show wpAny _ _ (callAny (.ref C) _) _ _ _
  repeat (any_goals (first | assumption | with_reducible refine wpAny_loadPart_at at_ ?_ | wp_step))
  refine ⟨rfl, codeAny_call_builtin_at (Code.quiet_builtin _ (by decide +kernel)) entry_typeCall (wpAny_check_type_call_sub at_ (made_kw F same at_ hi hb (codeAny_mono ho fun r s' z => ?_)))⟩
  rcases r with e | (v | _ | _ | _) <;> exact z
end
end PySem.XV

set_option Elab.async false
set_option linter.all false
set_option maxRecDepth 100000
set_option maxHeartbeats 4000000
namespace PSG
open PySem PySem.Spec L2
open PyProof.Rows (IntsAre AllBare)
/-- what the written part says of an own exception class at C, whose __init__ is the def at fI -/
structure Xk (K : PySem.W.Frag) (C fI : Addr) (B newId initId : String) (bmB : List Value) : Prop where
  fb : ExcBaseFacts B newId initId bmB
  sf : StoreFacts B bmB "object.__setattr__" "object"
  made : PySem.W.excInitIn K C bmB newId = true
  over : PySem.W.excOver K C bmB = true
  dict : PySem.W.hasDictIn K C = true
  set : PySem.W.findIn K (.ref C) "__setattr__" = some (some (.builtin "object.__setattr__"))
  init : PySem.W.findIn K (.ref C) "__init__" = some (some (.ref fI))
  fn : PySem.W.typeIn K (.ref fI) = some (.type "function")
  keep : PySem.W.keepIn K (.ref C) = true
  exc : PySem.W.subIn K (.ref C) (.type "BaseException") = some true
  ty : PySem.W.typeIn K (.ref C) = some (.type "type")
/-- at a: an exception of the class at C with these attributes (the last one stored first) -/
def ExV (H : Hp) (a C : Addr) (fs : List (Str × V)) : Prop :=
  (fs = [] ∧ H a = some (exo a C none)) ∨ ∃ d, fs ≠ [] ∧ H a = some (exo a C (some d)) ∧ H d = some (exd d fs)
theorem ExV.same {H H' : Hp} {a C : Addr} {fs : List (Str × V)} (x : ExV H a C fs) (s : Same H H') : ExV H' a C fs := by
  rcases x with ⟨e, h⟩ | ⟨d, e, h, h2⟩
  · exact .inl ⟨e, s _ _ h⟩
  · exact .inr ⟨d, e, s _ _ h, s _ _ h2⟩
end PSG
namespace PySem.XV
open PySem PySem.Spec PySem.W PySem.Calls PySem.HandSPX Builtin Builtin.ObjectAttr
section
variable {prog : Program} {w : World} {A : Around} {E : Value → Shared → Prop} {R : Result → Shared → Prop} {hp : Heap} {g : Array GenState} {d : Drawn} {t : Nat} {os : OsState}
/-- self.name = v, the first one -/
theorem store_first {K : W.Frag} {B : String} {bmB : List Value} {name : Str} {tk : Tok} {v : Value} {x C : Addr} {fv : Array Value} (SF : StoreFacts B bmB "object.__setattr__" "object") (ov : excOver K C bmB = true) (hd : hasDictIn K C = true)
    (X : K.In hp) (hx : hp.get? x = some { cls := .ref C, data := .fields fv }) (ha : W.findIn K (.ref C) name = some none)
    (hq : ∀ h' tk' dx, (∀ b o, b ≠ x → hp.get? b = some o → h'.get? b = some o) → hp.objs.size ≤ dx → dx ≠ x → h'.get? x = some { cls := .ref C, dict := some dx, data := .fields fv } →
      h'.Ns1 dx (fun y => if y = name then some v else none) → R (.ok (.ret .none)) ⟨h', g, d, tk', os⟩) :
    codeAny (model prog w) A (.call (.builtin "object.__setattr__") ⟨[.ref x, .str name tk, v], []⟩) R ⟨hp, g, d, t, os⟩ := by
  have I : W.InstAt hp x { cls := .ref C, data := .fields fv } C none := ⟨hx, rfl, rfl, trivial⟩
  have ne : x ≠ hp.objs.size := Nat.ne_of_lt (Heap.lt_size hx)
  have tak : takerIn K C name = some none := by unfold takerIn; rw [ha]; rfl
  obtain ⟨cd, hcd, hh⟩ := any_some hd
  refine osa_openX SF X I ov tak fun b => ?_
  have lc : W.Looks (model prog w) hp (classData C) cd := W.looks_clsIn X hcd
  obtain ⟨nm, bs, mro, ns, qn, hdd, sn, sb, ab, col, del⟩ := cd
  dsimp only at hh
  subst hh
  show wpAny _ _ (storeInOwnDict (.ref x) (.ref C) (.str name tk) name v b) _ _ _
  unfold storeInOwnDict
  unfold ownDictForStores
  repeat (first
    | with_reducible refine store_in_new ?_ ?_
    | with_reducible refine wpAny_loadPart_at hx ?_
    | with_reducible refine lc.at ?_
    | wp_step)
  · exact ⟨_, #[], _, (Heap.get?_update_ne _ _ _ _ ne.symm).trans (Heap.get?_push_at rfl rfl), rfl, fun e he => absurd he (by simp), fun _ => rfl⟩
  · intro h' tk' hn' hs
    have hx1 : (hp.push { cls := .type "dict", data := .dict #[] }).get? x = some { cls := .ref C, data := .fields fv } := Heap.get?_push_of_some _ hx
    refine hq h' tk' hp.objs.size (fun c o hc ho => ?_) (Nat.le_refl _) ne.symm ((hs.2 x ne).trans (Heap.get?_update_self _ hx1 rfl)) hn'
    exact (hs.2 c (Nat.ne_of_lt (Heap.lt_size ho))).trans ((Heap.get?_update_ne _ _ _ _ hc).trans (Heap.get?_push_of_some _ ho))
/-- self.name = v, a further one -/
theorem store_next {K : W.Frag} {B : String} {bmB : List Value} {name : Str} {tk : Tok} {v : Value} {x C dx : Addr} {fv : Array Value} {m0 : Str → Option Value} {nl : List Str} (SF : StoreFacts B bmB "object.__setattr__" "object") (ov : excOver K C bmB = true) (hd : hasDictIn K C = true)
    (X : K.In hp) (hx : hp.get? x = some { cls := .ref C, dict := some dx, data := .fields fv }) (hns : hp.Ns1 dx m0) (hw : Within m0 nl) (hz : nl.length ≤ 1000) (ha : W.findIn K (.ref C) name = some none)
    (hq : ∀ h' tk', (∀ b o, b ≠ dx → hp.get? b = some o → h'.get? b = some o) → h'.Ns1 dx (fun y => if y = name then some v else m0 y) → R (.ok (.ret .none)) ⟨h', g, d, tk', os⟩) :
    codeAny (model prog w) A (.call (.builtin "object.__setattr__") ⟨[.ref x, .str name tk, v], []⟩) R ⟨hp, g, d, t, os⟩ := by
  obtain ⟨oD, _, _, hoD, _, _⟩ := hns.count hw
  have I : W.InstAt hp x { cls := .ref C, dict := some dx, data := .fields fv } C (some oD) := ⟨hx, rfl, rfl, hoD⟩
  have tak : takerIn K C name = some none := by unfold takerIn; rw [ha]; rfl
  obtain ⟨cd, hcd, hh⟩ := any_some hd
  refine osa_openX SF X I ov tak fun b => ?_
  have lc : W.Looks (model prog w) hp (classData C) cd := W.looks_clsIn X hcd
  obtain ⟨nm, bs, mro, ns, qn, hdd, sn, sb, ab, col, del⟩ := cd
  dsimp only at hh
  subst hh
  show wpAny _ _ (storeInOwnDict (.ref x) (.ref C) (.str name tk) name v b) _ _ _
  unfold storeInOwnDict
  unfold ownDictForStores
  repeat (first
    | with_reducible refine PySem.OEX.store_in_old hns hw hz ?_
    | with_reducible refine wpAny_loadPart_at hx ?_
    | with_reducible refine lc.at ?_
    | wp_step)
  exact fun h' tk' hn' hs => hq h' tk' (fun c o hc ho => (hs.2 c hc).trans ho) hn'
end
end PySem.XV
namespace PSG
open PySem PySem.Spec L2
open PyProof.Rows (IntsAre AllBare)
section
variable {X : Cx} {pins : List (Addr × Obj)} {σ : L2.St} {H : Hp} {s : Shared} {a C fI dx : Addr} {f : Str} {y : V} {u : Value} {fs : List (Str × V)} {Q : Unit → Shared → Prop} {E : Value → Shared → Prop} {A : Around} {B newId initId : String} {bmB : List Value}
theorem xset_first (T : Xk X.K C fI B newId initId bmB) (I : Inv X pins σ H s) (e : H a = some (exo a C none)) (no : PySem.W.findIn X.K (.ref C) f = some none) (ry : RelV y u)
    (ho : ∀ dx s', H dx = none → dx ≠ a → Inv X pins σ (upd (upd H dx (exd dx [(f, y)])) a (exo a C (some dx))) s' → Q () s') : wpAny (model X.prog X.w) A (setAttr (.ref a) f u) Q E s := by
  obtain ⟨t1, ob⟩ := exo_at I.hok e
  obtain ⟨hp, g, d, t, os⟩ := s
  refine PySem.W.set_plain I.kIn (ox := { cls := .ref C, dict := none, data := .fields #[.ref t1, .none, .none, .none, .bool false, .none] }) (od := none) ⟨ob, rfl, rfl, trivial⟩ T.set ?_
  refine PySem.XV.store_first T.sf T.over T.dict I.kIn ob no fun h' tk' dx k dn dne hx hn => ?_
  have free : H dx = none := I.hok.fresh dn
  have old : ∀ {b : Addr} {o : Obj}, hp.get? b = some o → b ≠ dx := fun {b o} q => Nat.ne_of_lt (Nat.lt_of_lt_of_le (Heap.lt_size q) dn)
  have off : ∀ {b : Addr}, H b = none → b ≠ a := fun {b} n z => by
    rw [z, e] at n
    cases n
  refine ho dx _ free dne (I.un (t' := tk') ?_ fun b o q => ?_)
  · exact {
      keep := fun b o q n _ _ => k b o (off n) q
      slot := fun b o q n _ _ => ⟨o.slots, k b o (off n) q⟩
      free := fun b o q n _ => (upd_ne (off n)).trans ((upd_ne (old q)).trans n)
      there := fun b o q _ => if hb : b = a then ⟨_, hb ▸ hx⟩ else ⟨o, k b o hb q⟩
      tups := fun b xs q => (upd_ne (at_ne e q exo_tup)).trans ((upd_ne (ne_of_none q free)).trans q)
      frzs := fun b o v q => (upd_ne (at_ne e q exo_frz)).trans ((upd_ne (ne_of_none q free)).trans q)
      tbls := fun b ps q => ⟨#[], by rw [upd_ne (at_ne e q exo_tbl), upd_ne (ne_of_none q free), q]; simp⟩ }
  · by_cases hb : b = a
    · rw [hb, upd_same] at q
      cases q
      rw [hb]
      exact exo_ok hx
    · rw [upd_ne hb] at q
      by_cases hd : b = dx
      · rw [hd, upd_same] at q
        cases q
        rw [hd]
        exact exd_ok hn (relO_put (fs := []) ry fun _ => True.intro)
      · rw [upd_ne hd] at q
        refine (I.hok b o q).stay (fun c v hc z => k c v ?_ z) (fun c hc => ?_) fun c xs hc => ?_
        · rcases hc with hc | hc
          · rw [hc]
            exact hb
          · exact at_ne e hc exo_own
        · rw [upd_ne (at_ne e hc exo_own), upd_ne (ne_of_none hc free)]
          exact hc
        · rw [upd_ne (at_ne e hc exo_tup), upd_ne (ne_of_none hc free)]
          exact hc
theorem xset_next (T : Xk X.K C fI B newId initId bmB) (I : Inv X pins σ H s) (e : H a = some (exo a C (some dx))) (ed : H dx = some (exd dx fs)) (hl : fs.length ≤ 900) (no : PySem.W.findIn X.K (.ref C) f = some none) (ry : RelV y u)
    (ho : ∀ s', Inv X pins σ (upd H dx (exd dx ((f, y) :: fs))) s' → Q () s') : wpAny (model X.prog X.w) A (setAttr (.ref a) f u) Q E s := by
  obtain ⟨t1, ob⟩ := exo_at I.hok e
  obtain ⟨mA, hns, rel⟩ := exd_at I.hok ed
  have hw := within_of rel
  obtain ⟨hp, g, d, t, os⟩ := s
  obtain ⟨oD, _, _, hoD, _, _⟩ := hns.count hw
  refine PySem.W.set_plain I.kIn (ox := { cls := .ref C, dict := some dx, data := .fields #[.ref t1, .none, .none, .none, .bool false, .none] }) (od := some oD) ⟨ob, rfl, rfl, hoD⟩ T.set ?_
  refine PySem.XV.store_next T.sf T.over T.dict I.kIn ob hns hw (by rw [List.length_map]; omega) no fun h' tk' k hn => ?_
  have hd : ∃ o, h'.get? dx = some o := by
    obtain ⟨o, _, _, e', _⟩ := hn
    exact ⟨o, e'⟩
  exact ho _ (I.write (t' := tk') (x := dx) (e := dx) (o := exd dx ((f, y) :: fs)) (by rw [ed]; exact True.intro) (.inl rfl) k hd (exd_ok hn (relO_put ry rel)))
end
/-- self.f = e in such an __init__ -/
def tXset (K : PySem.W.Frag) (f : Str) (to te : TE) : TS := fun D σ H => te σ H fun y H1 => to σ H1 fun x H2 => ∃ (a C fI : Addr) (B newId initId : String) (bmB : List Value), x = .ref a ∧ Xk K C fI B newId initId bmB ∧ PySem.W.findIn K (.ref C) f = some none ∧
  ((H2 a = some (exo a C none) ∧ ∀ dx, H2 dx = none → dx ≠ a → D.nx σ (upd (upd H2 dx (exd dx [(f, y)])) a (exo a C (some dx)))) ∨
    ∃ (dx : Addr) (fs : List (Str × V)), H2 a = some (exo a C (some dx)) ∧ H2 dx = some (exd dx fs) ∧ fs.length ≤ 900 ∧ D.nx σ (upd H2 dx (exd dx ((f, y) :: fs))))
section
variable {X : Cx} {o e : Expr} {to te : TE} {f : Str} {p' pos : Pos}
theorem ps_xset (ho : PE X o to) (he : PE X e te) (hs : swapsWith e (some (.Attribute o f p')) pos.line X.env = pure false := by rfl) : PS X (.Assign [.Attribute o f p'] e pos) (tXset X.K f to te) where
  run := fun pins s σ H D I h => by
    refine plainObj_wpAny_Assign_Attribute (thn (he.run pins s σ H _ I h) fun v s1 ⟨y, H1, I1, r1, q1⟩ => thn (ho.run pins s1 σ H1 _ I1 q1) fun u s2 ⟨x, H2, I2, r2, a, C, fI, B, newId, initId, bmB, ex, T, no, q⟩ => ?_) hs
    subst ex
    cases r2
    rcases q with ⟨ea, q⟩ | ⟨dx, fs, ea, ed, hl, q⟩
    · exact xset_first T I2 ea no r1 fun dx s' n ne J => ⟨σ, _, J, q dx n ne⟩
    · exact xset_next T I2 ea ed hl no r1 fun s' J => ⟨σ, _, J, q⟩
end
/-! ### the promise of such an __init__, and the call of the class -/
/-- the attributes fn of the new exception are the arguments -/
def spXI (C : Addr) (fn : List Str) : Sp := fun vs H Q _ => ∃ (a : Addr) (ws : List V), vs = .ref a :: ws ∧ ws.length = fn.length ∧ H a = some (exo a C none) ∧
  ∀ H2, (∀ b o, b ≠ a → H b = some o → H2 b = some o) → ExV H2 a C (fn.zip ws).reverse → Q .non H2
def tXmk (C : Addr) (fn : List Str) (t : TA) : TE := fun σ H Q => t σ H fun vs H1 => vs.length = fn.length ∧ fn.length ≤ 1000 ∧ ∀ a H2, H1 a = none → Same H1 H2 → ExV H2 a C (fn.zip vs).reverse → Q (.ref a) H2
section
variable {X : Cx} {CT : CXT} {x : Str} {C fI : Addr} {n : Nat} {fd : FuncData} {ps fn : List Str} {B newId initId : String} {bmB : List Value} {p pos : Pos}
/-- the new object, its __init__ called, tracked -/
theorem xmade {pins : List (Addr × Obj)} {σ : L2.St} {H1 : Hp} {hp : Heap} {g : Array GenState} {dr : Drawn} {tk : Nat} {os : OsState} {Q : VK} {args : Args} {us : List Value} {vs : List V} (T : Xk X.K C fI B newId initId bmB)
    (F : FnOk X.prog X.w X.K X.mg X.base CX0 n fI fd ps (spXI C fn)) (room : Room (n + 1) X.A) (I1 : Inv X pins σ H1 ⟨hp, g, dr, tk, os⟩) (lay : List Value) (kw : List (Str × Value))
    (bi : ∀ s : Shared, X.K.In s.heap → BindsTo s fd args (ps.zip (.ref (hp.objs.size + 1) :: us))) (va : Vals vs us) (len : vs.length = fn.length)
    (ho : ∀ a H2, H1 a = none → Same H1 H2 → ExV H2 a C (fn.zip vs).reverse → Q (.ref a) H2) :
    codeAny (model X.prog X.w) (X.A.under (.builtin "type.__call__" ⟨.ref C :: lay, kw⟩)) (.call (.ref fI) args)
      (PySem.W.InitBack (hp.objs.size + 1) fun r s' => match r with | .ok (.ret v) => EP X pins σ Q v s' | .ok _ => False | .error e => X.xe e s')
      ⟨(hp.push (PySem.W.kdv_tup lay)).push (PySem.HandSPX.excO C hp.objs.size), g, dr, tk, os⟩ := by
  have big : hp.objs.size ≤ hp.objs.size + 1 := Nat.le_succ _
  have free : H1 (hp.objs.size + 1) = none := I1.hok.fresh big
  have old : ∀ b o, hp.get? b = some o → ((hp.push (PySem.W.kdv_tup lay)).push (PySem.HandSPX.excO C hp.objs.size)).get? b = some o := fun b o e => Heap.get?_push_of_some _ (Heap.get?_push_of_some _ e)
  have new : ((hp.push (PySem.W.kdv_tup lay)).push (PySem.HandSPX.excO C hp.objs.size)).get? (hp.objs.size + 1) = some (PySem.HandSPX.excO C hp.objs.size) := by heap_get
  have I2 : Inv X pins σ (upd H1 (hp.objs.size + 1) (exo (hp.objs.size + 1) C none)) ⟨(hp.push (PySem.W.kdv_tup lay)).push (PySem.HandSPX.excO C hp.objs.size), g, dr, tk, os⟩ :=
    I1.laid (t' := tk) (a := hp.objs.size + 1) (o := exo (hp.objs.size + 1) C none) (h' := (hp.push (PySem.W.kdv_tup lay)).push (PySem.HandSPX.excO C hp.objs.size)) old big (exo_ok new)
  have va2 : Vals (V.ref (hp.objs.size + 1) :: vs) (Value.ref (hp.objs.size + 1) :: us) := .cons rfl va
  refine codeAny_mono (F.run _ X.stack _ _ args (Value.ref (hp.objs.size + 1) :: us) _ (fun v H2 => v = .non ∧ Q (.ref (hp.objs.size + 1)) H2) (fun _ _ _ => False) (room.make C lay kw) (I2.env0.make C lay kw) (bi _ I2.kIn) va2
    ⟨_, vs, rfl, len, upd_same, fun H2 k ex => ⟨rfl, ho _ H2 free (fun b o e => ?_) ex⟩⟩) fun r s' z => ?_
  · have nb : b ≠ hp.objs.size + 1 := ne_of_none e free
    exact k b o nb ((upd_ne nb).trans e)
  · match r, z with
    | .ok (.ret u), z =>
      obtain ⟨v, G, J, rel, ev, q⟩ := I2.after z
      subst ev
      exact ⟨rel, .ref (hp.objs.size + 1), G, J, rfl, q⟩
    | .ok .next, z => exact z.elim
    | .ok .brk, z => exact z.elim
    | .ok .cont, z => exact z.elim
    | .error er, z => exact z.elim
theorem pe_xmk {e : Expr} {es : List Expr} {t : TA} (T : Xk X.K C fI B newId initId bmB) (F : FnOk X.prog X.w X.K X.mg X.base CX0 n fI fd ps (spXI C fn)) (room : Room (n + 1) X.A) (bi : Binds X.K fd ps []) (hps : ps.length = fn.length + 1)
    (hg : Gl X x) (hm : X.mg x = some (.ref C)) (ha : PA X (e :: es) t) (nd : (x == ("__debug__" : Str)) = false := by decide)
    (se : starEach (e :: es) X.env = (false, eval e X.env) :: starEach es X.env := by rfl) (sn : (backTo pos (starEach es X.env)).any (·.1) = false := by rfl) :
    PE X (.Call (.Name x p) (e :: es) [] pos) (tXmk C fn t) where
  run := fun pins s σ H Q I h => by
    refine wpAny_Call_Name_kw (ld_glob I hg hm ?_ nd)
    refine PySem.W.callWith_K (h₀ := X.base) I.ok.mod.kin T.keep (thn (ha.run pos pins s σ H _ I h) fun us s1 ⟨vs, H1, I1, r1, hl, hz, q1⟩ => ⟨I1.kIn, ?_⟩) se sn
    show wpAny _ _ (call (.ref C) us) _ _ _
    obtain ⟨hp, g, dr, tk, os⟩ := s1
    obtain ⟨nm, N, qn, bs, bm, hdct, sn, sub, ab, col, dd, k0, k1, k2, k3, k5, hC, same⟩ := PySem.W.excInit_of I1.kIn T.made
    have lu : us.length = fn.length := r1.length.symm.trans hl
    refine wpAny_call (PySem.HandSPX.call_own T.fb same hC (PySem.W.looks_findIn I1.kIn T.init) (fun self => PySem.W.bind_fn I1.kIn self T.fn) (by rw [sizeLine_eq]; omega) ?_)
    refine codeAny_mono (xmade (Q := Q) T F room I1 us [] (args := ⟨Value.ref (hp.objs.size + 1) :: us, []⟩) (us := us) (fun s2 k2 => ?_) r1 hl q1) fun r s' z => ?_
    · have z := bi s2 (Value.ref (hp.objs.size + 1) :: us) k2 (by rw [List.append_nil, List.length_cons, lu, hps])
      rw [List.append_nil] at z
      exact z
    · exact z
theorem pe_xmk0 (T : Xk X.K C fI B newId initId bmB) (F : FnOk X.prog X.w X.K X.mg X.base CX0 n fI fd ps (spXI C [])) (room : Room (n + 1) X.A) (bi : Binds X.K fd ps []) (hps : ps.length = 1)
    (hg : Gl X x) (hm : X.mg x = some (.ref C)) (nd : (x == ("__debug__" : Str)) = false := by decide) : PE X (.Call (.Name x p) [] [] pos) (tXmk C [] tNil) where
  run := fun pins s σ H Q I h => by
    refine wpAny_Call_Name_kw (ld_glob I hg hm ?_ nd)
    refine PySem.W.callWith_K0 I.kIn T.keep ?_
    obtain ⟨hp, g, dr, tk, os⟩ := s
    obtain ⟨nm, N, qn, bs, bm, hdct, sn, sub, ab, col, dd, k0, k1, k2, k3, k5, hC, same⟩ := PySem.W.excInit_of I.kIn T.made
    refine wpAny_call (PySem.HandSPX.call_own T.fb same hC (PySem.W.looks_findIn I.kIn T.init) (fun self => PySem.W.bind_fn I.kIn self T.fn) (Nat.zero_le _) ?_)
    refine codeAny_mono (xmade (Q := Q) (vs := []) T F room I [] [] (args := ⟨[Value.ref (hp.objs.size + 1)], []⟩) (us := []) (fun s2 k2 => ?_) .nil rfl h.2.2) fun r s' z => z
    have z := bi s2 [Value.ref (hp.objs.size + 1)] k2 (by rw [List.append_nil, hps]; rfl)
    exact z
/-- C(k = v, ..), keywords alone -/
theorem pe_xmkK {kws : List Keyword} {ks : List Str} {t : TA} (T : Xk X.K C fI B newId initId bmB) (F : FnOk X.prog X.w X.K X.mg X.base CX0 n fI fd ps (spXI C fn)) (room : Room (n + 1) X.A)
    (bi : ∀ (s : Shared) (u : Value) (ws : List Value), X.K.In s.heap → ws.length = ks.length → BindsTo s fd ⟨[u], ks.zip ws⟩ (ps.zip (u :: ws))) (lk : ks.length = fn.length)
    (hg : Gl X x) (hm : X.mg x = some (.ref C)) (ha : PK X kws t) (hall : (backToKw pos (keywordEach kws X.env)).all (·.1.isSome) = true := by rfl) (hks : (backToKw pos (keywordEach kws X.env)).filterMap (·.1) = ks := by rfl)
    (nd : (x == ("__debug__" : Str)) = false := by decide) (sn : ((backTo pos (starEach [] X.env)).any (·.1) || (backToKw pos (keywordEach kws X.env)).any (·.1.isNone)) = false := by rfl) :
    PE X (.Call (.Name x p) [] kws pos) (tXmk C fn t) where
  run := fun pins s σ H Q I h => by
    refine wpAny_Call_Name_kw (ld_glob I hg hm ?_ nd)
    refine PySem.W.callWith_KW0 (h₀ := X.base) I.ok.mod.kin T.keep hall (thn (ha.run pos pins s σ H _ I h) fun ws s1 ⟨vs, H1, I1, r1, hl, hz, q1⟩ => ⟨I1.kIn, ?_⟩) sn
    rw [hks]
    show wpAny _ _ (call (.ref C) [] (ks.zip ws)) _ _ _
    obtain ⟨hp, g, dr, tk, os⟩ := s1
    obtain ⟨nm, N, qn, bs, bm, hdct, sn, sub, ab, col, dd, k0, k1, k2, k3, k5, hC, same⟩ := PySem.W.excInit_of I1.kIn T.made
    have lu : ws.length = ks.length := (r1.length.symm.trans hl).trans lk.symm
    refine wpAny_call (PySem.XV.call_kw T.fb same hC (PySem.W.looks_findIn I1.kIn T.init) (fun self => PySem.W.bind_fn I1.kIn self T.fn) ?_)
    exact codeAny_mono (xmade (Q := Q) T F room I1 [] (ks.zip ws) (args := ⟨[Value.ref (hp.objs.size + 1)], ks.zip ws⟩) (us := ws) (fun s2 k2 => bi s2 _ ws k2 lu) r1 hl q1) fun r s' z => z
end
end PSG

set_option Elab.async false
set_option linter.all false
set_option maxRecDepth 100000
set_option maxHeartbeats 4000000
namespace PSG
open PySem PySem.Spec L2
open PyProof.Rows (IntsAre AllBare)
section
variable {X : Cx} {pins : List (Addr × Obj)} {σ : L2.St} {H : Hp} {s : Shared} {a C : Addr} {fs : List (Str × V)}
theorem exv_inst (I : Inv X pins σ H s) (x : ExV H a C fs) : ∃ ox od, PySem.W.InstAt s.heap a ox C od ∧ ((fs = [] ∧ od = none) ∨ ∃ dx o, od = some o ∧ H dx = some (exd dx fs) ∧ s.heap.get? dx = some o) := by
  rcases x with ⟨e, h⟩ | ⟨d, e, h, h2⟩
  · obtain ⟨t1, ob⟩ := exo_at I.hok h
    exact ⟨_, none, ⟨ob, rfl, rfl, trivial⟩, .inl ⟨e, rfl⟩⟩
  · obtain ⟨t1, ob⟩ := exo_at I.hok h
    obtain ⟨mA, hns, rel⟩ := exd_at I.hok h2
    obtain ⟨o, ho, _⟩ := lookIn_ns hns
    exact ⟨_, some o, ⟨ob, rfl, rfl, ho⟩, .inr ⟨d, o, rfl, h2, ho⟩⟩
/-- e.n, e an exception that stands -/
def tXfld (K : PySem.W.Frag) (n : Str) (te : TE) : TE := fun σ H Q => te σ H fun x H1 => ∃ (a C : Addr) (fs : List (Str × V)) (v : V), x = .ref a ∧ ExV H1 a C fs ∧ PySem.W.XcC K C ∧ PySem.W.findIn K (.ref C) n = some none ∧ fs.lookup n = some v ∧ Q v H1
theorem pe_xfld {e : Expr} {te : TE} {pos : Pos} {n : Str} (he : PE X e te) (hb : attributeBase e n X.env (eval e X.env) = eval e X.env := by rfl) : PE X (.Attribute e n pos) (tXfld X.K n te) where
  run := fun pins s σ H Q I h => by
    refine attr_of hb (thn (he.run pins s σ H _ I h) fun u s1 hh => ?_)
    obtain ⟨x, H1, I1, rx, a, C, fs, v, ex, V1, T, no, l, q⟩ := hh
    subst ex
    cases rx
    rcases V1 with ⟨e, h1⟩ | ⟨d, _, h1, h2⟩
    · rw [e] at l
      cases l
    · obtain ⟨t1, ob⟩ := exo_at I1.hok h1
      obtain ⟨mA, hns, rel⟩ := exd_at I1.hok h2
      obtain ⟨o, ho, look⟩ := lookIn_ns hns
      obtain ⟨w, hw, rw_⟩ := RelO.some_of (v := v) (o := mA n) (by rw [← l]; exact rel n)
      have J : PySem.W.InstAt s1.heap a _ C (some o) := ⟨ob, rfl, rfl, ho⟩
      exact PySem.HandSPX.exc_get I1.kIn J T.get T.get2 T.exc (PySem.W.findObj_own T.dict no rfl (by rw [look, hw])) (handed_of rw_) ⟨v, H1, I1.tok _, rw_, q⟩
/-- isinstance(e, c), e an exception that stands -/
def rXis (K : PySem.W.Frag) : List V → Hp → VK → Prop := fun xs H Q => ∃ (a C : Addr) (fs : List (Str × V)) (c : V) (u : Value) (b : Bool), xs = [.ref a, c] ∧ ClsV c u ∧ ExV H a C fs ∧ PySem.W.XcC K C ∧ PySem.W.kitOne K (.ref C) u = some b ∧ Q (.bl b) H
theorem call_xis : CallR X (.builtin "isinstance") (rXis X.K) := by
  intro pins s σ H xs us Q I r h
  obtain ⟨a, C, fs, c, u, b, rfl, k, x, T, e, q⟩ := h
  obtain ⟨u1, u2, rfl, r1, r2⟩ := vals2 r
  cases r1
  have e2 := k.eq r2
  subst e2
  obtain ⟨ox, od, J, _⟩ := exv_inst I x
  exact PySem.W.kia_one (T.kit (x := a) (ox := ox)) I.kIn ⟨od, J⟩ e (fun z => nomatch z) fun tk => ⟨.bl b, H, I.tok tk, rfl, q⟩
end
/-! ### lists that are new: not sys.modules -/
def tLstF (t : TA) : TE := fun σ H Q => t σ H fun xs H1 => xs.length ≤ sizeLine ∧ ∀ p, H1 p = none → p ≠ sysModules → Q (.ref p) (upd H1 p (.lst xs))
def rCatF : R2 := fun x y H Q => ∃ l b xs zs, x = .ref l ∧ y = .ref b ∧ H l = some (.lst xs) ∧ H b = some (.lst zs) ∧ xs.length + zs.length ≤ sizeLine ∧ ∀ p, H p = none → p ≠ sysModules → Q (.ref p) (upd H p (.lst (xs ++ zs)))
section
variable {X : Cx}
theorem pe_lstF {es : List Expr} {t : TA} {pos : Pos} (h : PA X es t) : PE X (.List es pos) (tLstF t) where
  run := fun pins s σ H Q I ho => by
    refine wpAny_List (thn (h.run pos pins s σ H _ I ho) fun us s1 ⟨xs, H1, I1, r, hz, q⟩ => ?_)
    have hl := r.length
    have new : s1.heap.objs.size ≠ sysModules := Nat.ne_of_gt I1.big
    exact ⟨by omega, .ref s1.heap.objs.size, _, I1.lnew (t' := s1.toks) r hz, rfl, q _ I1.fresh new⟩
theorem op_catF : OpR X (binaryOp .Add) rCatF := by
  intro pins s σ H x y v u Q I rx ry ho
  obtain ⟨l, b, xs, zs, rfl, rfl, h1, h2, hz, q⟩ := ho
  cases rx
  cases ry
  obtain ⟨_, is, _, r, _, e⟩ := I.lstM h1
  obtain ⟨_, js, _, r2, _, e2⟩ := I.lstM h2
  have l1 := r.length
  have l2 := r2.length
  refine PySem.P.add_list e e2 ?_ (by rw [List.size_toArray, List.size_toArray]; omega)
  rw [show is.toArray ++ js.toArray = (is ++ js).toArray by simp]
  have new : s.heap.objs.size ≠ sysModules := Nat.ne_of_gt I.big
  exact ⟨.ref s.heap.objs.size, _, I.lnew (t' := s.toks) (r.append r2) (by rw [List.length_append]; omega), rfl, q _ I.fresh new⟩
end
/-! ### heaps, data, draws -/
/-- what is tracked now and was not then -/
def news (B H : Hp) : Hp := fun b => match B b with | none => H b | some _ => none
theorem news_at {B H : Hp} {b : Addr} {o : HO} (h : B b = none) (e : H b = some o) : news B H b = some o := by
  unfold news
  rw [h]
  exact e
theorem news_of {B H : Hp} {b : Addr} {o : HO} (e : news B H b = some o) : B b = none ∧ H b = some o := by
  unfold news at e
  cases q : B b with
  | none =>
    rw [q] at e
    exact ⟨rfl, e⟩
  | some u =>
    rw [q] at e
    cases e
theorem news_sub {B H : Hp} : Same (news B H) H := fun _ _ e => (news_of e).2
mutual
theorem Dt.same {far : Bool} {H H' : Hp} (s : Same H H') : ∀ {v : V} {d : PyData}, Dt far H v d → Dt far H' v d
  | _, _, .non => .non
  | _, _, .bl b => .bl b
  | _, _, .int i => .int i
  | _, _, .str x => .str x
  | _, _, .lst e f t => .lst (s _ _ e) f (DtAll.same s t)
  | _, _, .tup e t => .tup (s _ _ e) (DtAll.same s t)
  | _, _, .dict e p => .dict (s _ _ e) p
theorem DtAll.same {far : Bool} {H H' : Hp} (s : Same H H') : ∀ {vs : List V} {ds : List PyData}, DtAll far H vs ds → DtAll far H' vs ds
  | _, _, .nil => .nil
  | _, _, .cons h t => .cons (Dt.same s h) (DtAll.same s t)
end
theorem DtAll.length {far : Bool} {H : Hp} : ∀ {vs : List V} {ds : List PyData}, DtAll far H vs ds → vs.length = ds.length
  | _, _, .nil => rfl
  | _, _, .cons _ t => congrArg Nat.succ (DtAll.length t)
theorem DtAll.append {far : Bool} {H : Hp} : ∀ {vs ws : List V} {ds es : List PyData}, DtAll far H vs ds → DtAll far H ws es → DtAll far H (vs ++ ws) (ds ++ es)
  | _, _, _, _, .nil, h => h
  | _, _, _, _, .cons h t, h2 => .cons h (DtAll.append t h2)
theorem DtAll.get {far : Bool} {H : Hp} : ∀ {vs : List V} {ds : List PyData} {i : Nat} {v : V}, DtAll far H vs ds → vs[i]? = some v → ∃ d, ds[i]? = some d ∧ Dt far H v d
  | _, _, i, _, .nil, e => by simp at e
  | _, _, 0, _, .cons h _, e => by
    have e' := Option.some.inj e
    subst e'
    exact ⟨_, rfl, h⟩
  | _, _, i + 1, _, .cons _ t, e => DtAll.get (i := i) t e
/-- all but the object at r is as it was -/
def But (r : Addr) (H H' : Hp) : Prop := ∀ b o, b ≠ r → H b = some o → H' b = some o
theorem But.refl {r : Addr} {H : Hp} : But r H H := fun _ _ _ e => e
theorem But.trans {r : Addr} {H H1 H2 : Hp} (a : But r H H1) (b : But r H1 H2) : But r H H2 := fun c o n e => b c o n (a c o n e)
theorem But.of {r : Addr} {H H' : Hp} (s : Same H H') : But r H H' := fun b o _ e => s b o e
theorem But.at {r : Addr} {H : Hp} {o : HO} : But r H (upd H r o) := fun b _ n e => (upd_ne n).trans e
theorem same_new {H : Hp} {p : Addr} {o : HO} (h : H p = none) : Same H (upd H p o) := fun b x e => (upd_ne (ne_of_none e h)).trans e
/-- at r: the two numbers that the draws are made of -/
def Rg (H : Hp) (r : Addr) : Prop := ∃ x y : Int, H r = some (.lst [.int x, .int y]) ∧ 0 ≤ x ∧ 0 ≤ y ∧ y < 2147483587
theorem Rg.some {H : Hp} {r : Addr} (g : Rg H r) : ∃ o, H r = some o := by
  obtain ⟨x, y, e, _⟩ := g
  exact ⟨_, e⟩
theorem Rg.new {H : Hp} {r p : Addr} {o : HO} (g : Rg H r) (h : H p = none) : Rg (upd H p o) r := by
  obtain ⟨x, y, e, z⟩ := g
  exact ⟨x, y, (upd_ne (ne_of_none e h)).trans e, z⟩
theorem Rg.same {H H' : Hp} {r : Addr} (g : Rg H r) (s : Same H H') : Rg H' r := by
  obtain ⟨x, y, e, z⟩ := g
  exact ⟨x, y, s _ _ e, z⟩
/-- what is new stays, where all that is not new may change -/
theorem news_but {B H H' : Hp} {r : Addr} (s : But r H H') (there : ∃ o, B r = some o) : Same (news B H) (news B H') := fun b o e => by
  obtain ⟨h1, h2⟩ := news_of e
  obtain ⟨u, hu⟩ := there
  exact news_at h1 (s b o (fun z => by rw [z, hu] at h1; cases h1) h2)
theorem news_up {B H H' : Hp} (d : ∀ b o, B b = some o → ∃ u, H b = some u) : Same (news H H') (news B H') := fun b o e => by
  obtain ⟨h1, h2⟩ := news_of e
  refine news_at ?_ h2
  cases q : B b with
  | none => rfl
  | some u =>
    obtain ⟨x, hx⟩ := d b u q
    rw [h1] at hx
    cases hx
theorem But.dom {r : Addr} {H H' : Hp} (s : But r H H') (g : ∃ o, H' r = some o) : ∀ b o, H b = some o → ∃ u, H' b = some u := fun b o e => by
  by_cases hb : b = r
  · rw [hb]
    exact g
  · exact ⟨o, s b o hb e⟩
/-- data with a short text, not deep -/
structure Nice (d : PyData) : Prop where
  sh : d.showable = true
  ln : d.shown.length ≤ 100
  dp : d.depth ≤ 6
end PSG

set_option Elab.async false
set_option linter.all false
set_option maxRecDepth 100000
set_option maxHeartbeats 4000000
/-! zip of two texts -/
namespace PSZ
open PySem
open PySem.Sem (wp)
section
variable {prog : Program} {w : World} {A : Around} {E : Value → Shared → Prop} {s : Shared}
def TextTy (ty : String) : Prop := ty = "str_ascii_iterator" ∨ ty = "str_iterator"
theorem text_item {ty : String} {p : Addr} {x : Str} {t : Tok} {i c : Nat} {Q : Value → Shared → Prop} (k : TextTy ty) (it : s.heap.IsStrIter p ty x t i) (e : x.cps[i]? = some c)
    (q : ∀ g, g.IsStrIter p ty x t (i + 1) → Heap.SameBut p s.heap g → Q (.str ⟨#[c]⟩ s.toks) { s with heap := g, toks := s.toks + 1 }) : wpAny (model prog w) A (Builtin.SmallTypes.nextOf (.ref p)) Q E s := by
  rcases k with rfl | rfl
  · exact wpAny_nextOf_ascii_item it e q
  · exact wpAny_nextOf_wide_item it e q
theorem text_end {ty : String} {p : Addr} {x : Str} {t : Tok} {i : Nat} {Q : Value → Shared → Prop} (k : TextTy ty) (hd : A.handled = none) (it : s.heap.IsStrIter p ty x t i) (e : x.cps[i]? = none)
    (q : ∀ g b, Heap.ExtBut p s.heap g → (∃ o, g.get? b = some o ∧ o.cls = .type "StopIteration") → E (.ref b) { s with heap := g }) : wpAny (model prog w) A (Builtin.SmallTypes.nextOf (.ref p)) Q E s := by
  rcases k with rfl | rfl
  · exact wpAny_nextOf_ascii_end hd it e q
  · exact wpAny_nextOf_wide_end hd it e q
theorem at_text {h h' : Heap} {p : Addr} {ty : String} {x : Str} {t : Tok} {i : Nat} (y : h.IsStrIter p ty x t i) (k : ∀ o, h.get? p = some o → h'.get? p = some o) : h'.IsStrIter p ty x t i :=
  let ⟨o, e, r⟩ := y
  ⟨o, k o e, r⟩
/-- a turn of zip over two texts that both have a further sign -/
theorem zipS_item {z TI TO i1 i2 l1 l2 : Addr} {ty1 ty2 : String} {x1 x2 : Str} {t1 t2 : Tok} {k1 k2 c1 c2 : Nat} {a b : Value} {Q : Value → Shared → Prop} (D : ZipApart z TI TO i1 i2 l1 l2) (y1 : TextTy ty1) (y2 : TextTy ty2)
    (hz : IsZip s.heap z TI TO .none) (hTI : IsPair s.heap TI (.ref i1) (.ref i2)) (hTO : IsPair s.heap TO a b) (h1 : s.heap.IsStrIter i1 ty1 x1 t1 k1) (h2 : s.heap.IsStrIter i2 ty2 x2 t2 k2)
    (e1 : x1.cps[k1]? = some c1) (e2 : x2.cps[k2]? = some c2)
    (q : ∀ g n u1 u2, IsZip g z TI TO (rawInt s.heap.objs.size) → (∃ a b, IsPair g TO a b) → g.IsStrIter i1 ty1 x1 t1 (k1 + 1) → g.IsStrIter i2 ty2 x2 t2 (k2 + 1) → IsPair g s.heap.objs.size (.str ⟨#[c1]⟩ u1) (.str ⟨#[c2]⟩ u2) →
      (∀ c o, c ≠ z → c ≠ TO → c ≠ i1 → c ≠ i2 → s.heap.get? c = some o → g.get? c = some o) → Q (.ref s.heap.objs.size) { s with heap := g, toks := n }) :
    wpAny (model prog w) A (Builtin.«zip.__next__» ⟨[.ref z], []⟩) (fun r s' => ∃ v, r = .done (.ret v) ∧ Q v s') E s := by
  show wpAny _ _ (field (.ref z) 2 >>= _) _ _ _
  refine wpAny_bind (wpAny_field hz rfl (x := .bool false) rfl ?_)
  show wpAny _ _ (field (.ref z) 3 >>= _) _ _ _
  refine wpAny_bind (wpAny_field hz rfl (x := .ref TI) rfl ?_)
  refine wpAny_bind (wpAny_seqItems hTI rfl ?_)
  show wpAny _ _ (Builtin.SmallTypes.ownedTupleIsFree (.ref z) >>= _) _ _ _
  refine wpAny_bind ?_
  unfold Builtin.SmallTypes.ownedTupleIsFree
  refine wpAny_bind (wpAny_field hz rfl (x := .none) rfl (wpAny_pure ?_))
  simp only [if_true]
  refine wpAny_bind (wpAny_rule ?_)
  refine wpAny_bind (wpAny_field hz rfl (x := .ref TO) rfl ?_)
  refine wpAny_bind (wpAny_setField_rec hz (by simp) fun g1 z1 s1 => ?_)
  replace z1 : IsZip g1 z TI TO .ellipsis := z1
  refine wpAny_bind ?_
  simp only [List.zipIdx_cons, List.zipIdx_nil, List.forIn_cons, List.forIn_nil]
  refine wpAny_bind (wpAny_bind (wpAny_onRaise ?_))
  show wpAny _ _ (Builtin.SmallTypes.nextOf (.ref i1) >>= _) _ _ _
  refine wpAny_bind (text_item y1 (h1.extBut s1.extBut D.i1z) e1 fun g2 it1 s2 => wpAny_pure ?_)
  have o2 : IsPair g2 TO a b := s2.extBut _ _ D.TOi1 (s1.extBut _ _ D.TOz hTO)
  refine wpAny_bind (wpAny_seqItems o2 rfl ?_)
  refine wpAny_bind (wpAny_updateSeq_pair o2 fun g3 o3 s3 => ?_)
  replace o3 : IsPair g3 TO (.str ⟨#[c1]⟩ s.toks) b := o3
  refine wpAny_bind (wpAny_letGo (wpAny_pure ?_))
  refine wpAny_bind (wpAny_bind (wpAny_onRaise ?_))
  show wpAny _ _ (Builtin.SmallTypes.nextOf (.ref i2) >>= _) _ _ _
  refine wpAny_bind (text_item y2 (((h2.extBut s1.extBut D.i2z).extBut s2.extBut D.i12.symm).extBut s3.extBut D.TOi2.symm) e2 fun g4 it2 s4 => wpAny_pure ?_)
  have o4 : IsPair g4 TO (.str ⟨#[c1]⟩ s.toks) b := s4.extBut _ _ D.TOi2 o3
  refine wpAny_bind (wpAny_seqItems o4 rfl ?_)
  refine wpAny_bind (wpAny_updateSeq_pair o4 fun g5 o5 s5 => ?_)
  replace o5 : IsPair g5 TO (.str ⟨#[c1]⟩ s.toks) (.str ⟨#[c2]⟩ (s.toks + 1)) := o5
  refine wpAny_bind (wpAny_letGo (wpAny_pure (wpAny_pure ?_)))
  refine wpAny_bind (wpAny_seqItems o5 rfl ?_)
  refine wpAny_bind (wpAny_newTuple ?_)
  have size : g5.objs.size = s.heap.objs.size := by rw [s5.1, s4.1, s3.1, s2.1, s1.1]
  have z5 : IsZip g5 z TI TO .ellipsis := s5.extBut _ _ D.TOz.symm (s4.extBut _ _ D.i2z.symm (s3.extBut _ _ D.TOz.symm (s2.extBut _ _ D.i1z.symm z1)))
  have keep : ∀ c o, c ≠ z → c ≠ TO → c ≠ i1 → c ≠ i2 → s.heap.get? c = some o → g5.get? c = some o := fun c o n1 n2 n3 n4 e =>
    s5.extBut _ _ n2 (s4.extBut _ _ n4 (s3.extBut _ _ n2 (s2.extBut _ _ n3 (s1.extBut _ _ n1 e))))
  have j1 : g5.IsStrIter i1 ty1 x1 t1 (k1 + 1) := ((it1.extBut s3.extBut D.TOi1.symm).extBut s4.extBut D.i12).extBut s5.extBut D.TOi1.symm
  have j2 : g5.IsStrIter i2 ty2 x2 t2 (k2 + 1) := it2.extBut s5.extBut D.TOi2.symm
  have lz : z < g5.objs.size := Heap.lt_size z5
  show wpAny _ _ (Builtin.SmallTypes.ownedTupleHandOut (.ref z) (.ref g5.objs.size) >>= _) _ _ _
  refine wpAny_bind ?_
  unfold Builtin.SmallTypes.ownedTupleHandOut
  have z6 : IsZip (g5.push { cls := .type "tuple", data := .seq #[.str ⟨#[c1]⟩ s.toks, .str ⟨#[c2]⟩ (s.toks + 1)] }) z TI TO .ellipsis := Heap.get?_push_of_some _ z5
  refine wpAny_bind (wpAny_setField_rec z6 (by simp) fun g7 z7 s7 => ?_)
  replace z7 : IsZip g7 z TI TO (rawInt g5.objs.size) := z7
  refine wpAny_setField_rec z7 (by simp) fun g8 z8 s8 => ?_
  replace z8 : IsZip g8 z TI TO (rawInt g5.objs.size) := z8
  have up : ∀ c o, c ≠ z → g5.get? c = some o → g8.get? c = some o := fun c o n e => s8.extBut _ _ n (s7.extBut _ _ n (Heap.get?_push_of_some _ e))
  have p8 : IsPair g8 g5.objs.size (.str ⟨#[c1]⟩ s.toks) (.str ⟨#[c2]⟩ (s.toks + 1)) := s8.extBut _ _ (Nat.ne_of_gt lz) (s7.extBut _ _ (Nat.ne_of_gt lz) (Heap.get?_push_size _ rfl))
  rw [size] at z8 p8
  refine wpAny_pure ⟨_, rfl, ?_⟩
  show Q (.ref g5.objs.size) _
  rw [size]
  exact q g8 _ _ _ z8 ⟨_, _, up _ _ D.TOz o5⟩ (at_text j1 fun o e => up _ o D.i1z e) (at_text j2 fun o e => up _ o D.i2z e) p8 fun c o n1 n2 n3 n4 e => up c o n1 (keep c o n1 n2 n3 n4 e)
/-- the turn at which one of the texts is at its end -/
theorem zipS_end {z TI TO i1 i2 l1 l2 : Addr} {ty1 ty2 : String} {x1 x2 : Str} {t1 t2 : Tok} {k1 k2 : Nat} {a b : Value} {Q : Fin → Shared → Prop} (hd : A.handled = none) (D : ZipApart z TI TO i1 i2 l1 l2) (y1 : TextTy ty1) (y2 : TextTy ty2)
    (hz : IsZip s.heap z TI TO .none) (hTI : IsPair s.heap TI (.ref i1) (.ref i2)) (hTO : IsPair s.heap TO a b) (h1 : s.heap.IsStrIter i1 ty1 x1 t1 k1) (h2 : s.heap.IsStrIter i2 ty2 x2 t2 k2)
    (fin : x1.cps[k1]? = none ∨ x2.cps[k2]? = none)
    (q : ∀ g n e, (∀ c o, c ≠ z → c ≠ TO → c ≠ i1 → c ≠ i2 → s.heap.get? c = some o → g.get? c = some o) → (∃ o, g.get? e = some o ∧ o.cls = .type "StopIteration") → E (.ref e) { s with heap := g, toks := n }) :
    wpAny (model prog w) A (Builtin.«zip.__next__» ⟨[.ref z], []⟩) Q E s := by
  show wpAny _ _ (field (.ref z) 2 >>= _) _ _ _
  refine wpAny_bind (wpAny_field hz rfl (x := .bool false) rfl ?_)
  show wpAny _ _ (field (.ref z) 3 >>= _) _ _ _
  refine wpAny_bind (wpAny_field hz rfl (x := .ref TI) rfl ?_)
  refine wpAny_bind (wpAny_seqItems hTI rfl ?_)
  show wpAny _ _ (Builtin.SmallTypes.ownedTupleIsFree (.ref z) >>= _) _ _ _
  refine wpAny_bind ?_
  unfold Builtin.SmallTypes.ownedTupleIsFree
  refine wpAny_bind (wpAny_field hz rfl (x := .none) rfl (wpAny_pure ?_))
  simp only [if_true]
  refine wpAny_bind (wpAny_rule ?_)
  refine wpAny_bind (wpAny_field hz rfl (x := .ref TO) rfl ?_)
  refine wpAny_bind (wpAny_setField_rec hz (by simp) fun g1 z1 s1 => ?_)
  replace z1 : IsZip g1 z TI TO .ellipsis := z1
  refine wpAny_bind ?_
  simp only [List.zipIdx_cons, List.zipIdx_nil, List.forIn_cons, List.forIn_nil]
  refine wpAny_bind (wpAny_bind (wpAny_onRaise ?_))
  show wpAny _ _ (Builtin.SmallTypes.nextOf (.ref i1) >>= _) _ _ _
  cases e1 : x1.cps[k1]? with
  | none =>
    refine wpAny_bind (text_end y1 hd (h1.extBut s1.extBut D.i1z) e1 fun g2 e s2 st => ?_)
    obtain ⟨oe, ge, ce⟩ := st
    have z2 : IsZip g2 z TI TO .ellipsis := s2 _ _ D.i1z.symm z1
    have nz : e ≠ z := fun x => by
      rw [x, z2] at ge
      cases ge
      simp at ce
    exact wpAny_setField_rec z2 (by simp) fun g3 _ s3 => q g3 _ e (fun c o n1 _ n3 _ x => s3.extBut _ _ n1 (s2 _ _ n3 (s1.extBut _ _ n1 x))) ⟨oe, s3.extBut _ _ nz ge, ce⟩
  | some c1 =>
    have e2 : x2.cps[k2]? = none := by
      rcases fin with h | h
      · rw [e1] at h
        cases h
      · exact h
    refine wpAny_bind (text_item y1 (h1.extBut s1.extBut D.i1z) e1 fun g2 it1 s2 => wpAny_pure ?_)
    have o2 : IsPair g2 TO a b := s2.extBut _ _ D.TOi1 (s1.extBut _ _ D.TOz hTO)
    refine wpAny_bind (wpAny_seqItems o2 rfl ?_)
    refine wpAny_bind (wpAny_updateSeq_pair o2 fun g3 o3 s3 => ?_)
    refine wpAny_bind (wpAny_letGo (wpAny_pure ?_))
    refine wpAny_bind (wpAny_bind (wpAny_onRaise ?_))
    show wpAny _ _ (Builtin.SmallTypes.nextOf (.ref i2) >>= _) _ _ _
    refine wpAny_bind (text_end y2 hd (((h2.extBut s1.extBut D.i2z).extBut s2.extBut D.i12.symm).extBut s3.extBut D.TOi2.symm) e2 fun g4 e s4 st => ?_)
    obtain ⟨oe, ge, ce⟩ := st
    have z4 : IsZip g4 z TI TO .ellipsis := s4 _ _ D.i2z.symm (s3.extBut _ _ D.TOz.symm (s2.extBut _ _ D.i1z.symm z1))
    have nz : e ≠ z := fun x => by
      rw [x, z4] at ge
      cases ge
      simp at ce
    exact wpAny_setField_rec z4 (by simp) fun g5 _ s5 => q g5 _ e (fun c o n1 n2 n3 n4 x => s5.extBut _ _ n1 (s4 _ _ n4 (s3.extBut _ _ n2 (s2.extBut _ _ n3 (s1.extBut _ _ n1 x))))) ⟨oe, s5.extBut _ _ nz ge, ce⟩
theorem next_zipS {z TI TO i1 i2 l1 l2 : Addr} {ty1 ty2 : String} {x1 x2 : Str} {t1 t2 : Tok} {k1 k2 c1 c2 : Nat} {a b : Value} {Q : Option Value → Shared → Prop} (D : ZipApart z TI TO i1 i2 l1 l2) (y1 : TextTy ty1) (y2 : TextTy ty2)
    (hz : IsZip s.heap z TI TO .none) (hTI : IsPair s.heap TI (.ref i1) (.ref i2)) (hTO : IsPair s.heap TO a b) (h1 : s.heap.IsStrIter i1 ty1 x1 t1 k1) (h2 : s.heap.IsStrIter i2 ty2 x2 t2 k2)
    (e1 : x1.cps[k1]? = some c1) (e2 : x2.cps[k2]? = some c2)
    (q : ∀ g n u1 u2, IsZip g z TI TO (rawInt s.heap.objs.size) → (∃ a b, IsPair g TO a b) → g.IsStrIter i1 ty1 x1 t1 (k1 + 1) → g.IsStrIter i2 ty2 x2 t2 (k2 + 1) → IsPair g s.heap.objs.size (.str ⟨#[c1]⟩ u1) (.str ⟨#[c2]⟩ u2) →
      (∀ c o, c ≠ z → c ≠ TO → c ≠ i1 → c ≠ i2 → s.heap.get? c = some o → g.get? c = some o) → Q (some (.ref s.heap.objs.size)) { s with heap := g, toks := n }) :
    wpAny (model prog w) A (pyNext (.ref z)) Q E s := by
  have ty : s.TypeIs (.ref z) "zip" := ⟨_, hz, rfl⟩
  unfold pyNext
  refine wpAny_bind (wpAny_attempt (wpAny_callSpecial?_slot (name := Str.ofString "__next__") ty F.slot_zip_next (wpAny_call_entry F.slot_zip_next ty F.entry_zip_next ?_ (F.args_zip_next_1 _))))
  exact zipS_item D y1 y2 hz hTI hTO h1 h2 e1 e2 fun g n u1 u2 p1 p2 p3 p4 p5 p6 => wpAny_pure (q g n u1 u2 p1 p2 p3 p4 p5 p6)
theorem next_zipS_end {z TI TO i1 i2 l1 l2 : Addr} {ty1 ty2 : String} {x1 x2 : Str} {t1 t2 : Tok} {k1 k2 : Nat} {a b : Value} {Q : Option Value → Shared → Prop} (hd : A.handled = none) (D : ZipApart z TI TO i1 i2 l1 l2) (y1 : TextTy ty1) (y2 : TextTy ty2)
    (hz : IsZip s.heap z TI TO .none) (hTI : IsPair s.heap TI (.ref i1) (.ref i2)) (hTO : IsPair s.heap TO a b) (h1 : s.heap.IsStrIter i1 ty1 x1 t1 k1) (h2 : s.heap.IsStrIter i2 ty2 x2 t2 k2)
    (fin : x1.cps[k1]? = none ∨ x2.cps[k2]? = none) (q : ∀ g n, (∀ c o, c ≠ z → c ≠ TO → c ≠ i1 → c ≠ i2 → s.heap.get? c = some o → g.get? c = some o) → Q none { s with heap := g, toks := n }) : wpAny (model prog w) A (pyNext (.ref z)) Q E s := by
  have ty : s.TypeIs (.ref z) "zip" := ⟨_, hz, rfl⟩
  unfold pyNext
  refine wpAny_bind (wpAny_attempt (wpAny_callSpecial?_slot (name := Str.ofString "__next__") ty F.slot_zip_next (wpAny_call_entry F.slot_zip_next ty F.entry_zip_next ?_ (F.args_zip_next_1 _))))
  refine zipS_end hd D y1 y2 hz hTI hTO h1 h2 fin fun g n e k st => ?_
  obtain ⟨o, ho, hc⟩ := st
  exact wpAny_bind (wpAny_isInstance (T := "StopIteration") (b := true) ⟨o, ho, hc⟩ isSubtype_stop (wpAny_pure (q g n k)))
end
end PSZ

set_option Elab.async false
set_option linter.all false
set_option maxRecDepth 100000
set_option maxHeartbeats 4000000
namespace PSZ
open PySem
open PySem.Sem (wp)
theorem textTy (x : Str) : TextTy (strIterType x) := by
  unfold strIterType
  split
  · exact .inl rfl
  · exact .inr rfl
def walker (x : Str) (t : Tok) : Obj := { cls := .type (strIterType x), data := .fields #[.str x t, .int 0 0] }
def two (a b : Value) : Obj := { cls := .type "tuple", data := .seq #[a, b] }
def pairs (h : Heap) (x y : Str) (t u : Tok) : Heap := (((h.push (walker x t)).push (walker y u)).push (two (.ref h.objs.size) (.ref (h.push (walker x t)).objs.size))).push (two .none .none)
def zipped (h : Heap) (x y : Str) (t u : Tok) : Heap :=
  (pairs h x y t u).push { cls := .type "zip", data := .fields #[.none, .bool false, .bool false, .ref ((h.push (walker x t)).push (walker y u)).objs.size, .ref (((h.push (walker x t)).push (walker y u)).push (two (.ref h.objs.size) (.ref (h.push (walker x t)).objs.size))).objs.size] }
theorem new_zipS (x y : Str) (t u : Tok) : Meets (Builtin.«zip.__new__» ⟨[.type "zip", .str x t, .str y u], []⟩) (fun _ R s => R (.ok (.ret (.ref (pairs s.heap x y t u).objs.size))) { s with heap := zipped s.heap x y t u }) :=
  .of_wp fun prog w A R s h => by
    obtain ⟨hp, g, d, tk, os⟩ := s
    have sub := sub_zip
    wp_walk using wpAny_pyIter_strU
    exact ⟨_, rfl, h⟩
section
variable {prog : Program} {w : World} {A : Around} {E : Value → Shared → Prop} {s : Shared}
theorem call_zipS {x y : Str} {t u : Tok} {Q : Value → Shared → Prop}
    (q : ∀ g, IsZip g (s.heap.objs.size + 4) (s.heap.objs.size + 2) (s.heap.objs.size + 3) .none → IsPair g (s.heap.objs.size + 2) (.ref s.heap.objs.size) (.ref (s.heap.objs.size + 1)) → IsPair g (s.heap.objs.size + 3) .none .none →
      g.IsStrIter s.heap.objs.size (strIterType x) x t 0 → g.IsStrIter (s.heap.objs.size + 1) (strIterType y) y u 0 → (∀ c o, s.heap.get? c = some o → g.get? c = some o) → Q (.ref (s.heap.objs.size + 4)) { s with heap := g }) :
    wpAny (model prog w) A (call (.type "zip") [.str x t, .str y u]) Q E s := by
  refine callType_new F.called_zip (by decide) (F.typeCall_zip_2 _ _) (F.newCall_zip_2 _ _) (fun obj => F.args_object_init_3 obj _ _) F.entry_zip_new (new_zipS x y t u) ?_
  have n1 : (s.heap.push (walker x t)).objs.size = s.heap.objs.size + 1 := Heap.size_push ..
  have n2 : ((s.heap.push (walker x t)).push (walker y u)).objs.size = s.heap.objs.size + 2 := by rw [Heap.size_push, n1]
  have n3 : (((s.heap.push (walker x t)).push (walker y u)).push (two (.ref s.heap.objs.size) (.ref (s.heap.push (walker x t)).objs.size))).objs.size = s.heap.objs.size + 3 := by rw [Heap.size_push, n2]
  have n4 : (pairs s.heap x y t u).objs.size = s.heap.objs.size + 4 := by
    unfold pairs
    rw [Heap.size_push, n3]
  have old : ∀ {c : Addr} {o : Obj}, (pairs s.heap x y t u).get? c = some o → (zipped s.heap x y t u).get? c = some o := fun e => Heap.get?_push_of_some _ e
  have a5 : (zipped s.heap x y t u).get? (pairs s.heap x y t u).objs.size = some _ := Heap.get?_push_size _ rfl
  have a4 : (zipped s.heap x y t u).get? _ = some _ := old (Heap.get?_push_size _ rfl)
  have a3 : (zipped s.heap x y t u).get? _ = some _ := old (Heap.get?_push_of_some _ (Heap.get?_push_size _ rfl))
  have a2 : (zipped s.heap x y t u).get? _ = some _ := old (Heap.get?_push_of_some _ (Heap.get?_push_of_some _ (Heap.get?_push_size _ rfl)))
  have a1 : (zipped s.heap x y t u).get? s.heap.objs.size = some _ := old (Heap.get?_push_of_some _ (Heap.get?_push_of_some _ (Heap.get?_push_of_some _ (Heap.get?_push_size _ rfl))))
  show _ ∧ _
  rw [n2, n3, n4] at a5
  rw [n3] at a4
  rw [n2, n1] at a3
  rw [n1] at a2
  rw [n4]
  exact ⟨⟨_, a5, rfl⟩, q _ a5 a3 a4 ⟨_, a1, rfl, rfl⟩ ⟨_, a2, rfl, rfl⟩ fun c o e => old (Heap.get?_push_of_some _ (Heap.get?_push_of_some _ (Heap.get?_push_of_some _ (Heap.get?_push_of_some _ e))))⟩
end
end PSZ
namespace PSG
open PySem PySem.Spec L2
open PyProof.Rows (IntsAre AllBare)
/-- the pairs of two texts -/
def Itzs (x y : Str) : It :=
  ⟨fun i _ => i < x.cps.size ∧ i < y.cps.size, fun i H v H' => ∃ T c d, v = .ref T ∧ H T = none ∧ H' = upd H T (.tup [.str ⟨#[c]⟩, .str ⟨#[d]⟩]) ∧ x.cps[i]? = some c ∧ y.cps[i]? = some d, fun i _ => x.cps.size ≤ i ∨ y.cps.size ≤ i⟩
theorem turn_zipS {P : Program} {w : World} {K : PySem.W.Frag} {tg : List Expr} {n : Nat} {tp : Pos} {x y : Str} {t u : Tok} {l1 l2 z TI TO i1 i2 : Addr} (D : ZipApart z TI TO i1 i2 l1 l2) :
    Turn P w K (.Tuple tg n tp) (Itzs x y) [z, TI, TO, i1, i2] z (fun i h => IsZip h z TI TO .none ∧ IsPair h TI (.ref i1) (.ref i2) ∧ (∃ a b, IsPair h TO a b) ∧ h.IsStrIter i1 (strIterType x) x t i ∧ h.IsStrIter i2 (strIterType y) y u i) where
  mem := by simp
  obj := fun i h st c hc => by
    obtain ⟨hz, hTI, ⟨a, b, hTO⟩, ⟨o1, e1, _, d1⟩, ⟨o2, e2, _, d2⟩⟩ := st
    have which : c = z ∨ c = TI ∨ c = TO ∨ c = i1 ∨ c = i2 := by simpa using hc
    rcases which with rfl | rfl | rfl | rfl | rfl
    · exact ⟨_, hz, fun v q => nomatch q⟩
    · exact ⟨_, hTI, fun v q => nomatch q⟩
    · exact ⟨_, hTO, fun v q => nomatch q⟩
    · exact ⟨o1, e1, fun v q => by rw [d1] at q; cases q⟩
    · exact ⟨o2, e2, fun v q => by rw [d2] at q; cases q⟩
  keep := fun i h h' st k => by
    obtain ⟨hz, hTI, ⟨a, b, hTO⟩, h1, h2⟩ := st
    exact ⟨k z (by simp) _ hz, k TI (by simp) _ hTI, ⟨a, b, k TO (by simp) _ hTO⟩, PSZ.at_text h1 fun o q => k i1 (by simp) o q, PSZ.at_text h2 fun o q => k i2 (by simp) o q⟩
  item := by
    intro X e1 e2 e3 calm i pins s σ H E I fp st go
    subst e1 e2 e3
    obtain ⟨hz, hTI, ⟨a, b, hTO⟩, h1, h2⟩ := st
    obtain ⟨lx, ly⟩ := go
    have ex : x.cps[i]? = some x.cps[i] := Array.getElem?_eq_getElem lx
    have ey : y.cps[i]? = some y.cps[i] := Array.getElem?_eq_getElem ly
    have lz : z < s.heap.objs.size := Heap.lt_size hz
    refine PSZ.next_zipS D (PSZ.textTy x) (PSZ.textTy y) hz hTI hTO h1 h2 ex ey fun g m u1 u2 z' o' j1 j2 pr k => ?_
    refine ⟨_, rfl, wpAny_letOwnedTupleGo_zip (s := { s with heap := g, toks := m }) z' fun g2 z2 sb => ?_⟩
    have pr2 : g2.get? s.heap.objs.size = some { cls := .type "tuple", data := .seq #[.str ⟨#[x.cps[i]]⟩ u1, .str ⟨#[y.cps[i]]⟩ u2] } := (sb.2 _ (Nat.ne_of_gt lz)).trans pr
    have new : ObjOk X.prog X.w (upd H s.heap.objs.size (.tup [.str ⟨#[x.cps[i]]⟩, .str ⟨#[y.cps[i]]⟩])) g2 s.heap.objs.size (.tup [.str ⟨#[x.cps[i]]⟩, .str ⟨#[y.cps[i]]⟩]) :=
      ⟨by show 2 ≤ sizeLine; decide, _, .cons ⟨u1, rfl⟩ (.cons ⟨u2, rfl⟩ .nil), ⟨_, pr2, rfl, _, rfl⟩⟩
    have out : ∀ c, c ∉ [z, TI, TO, i1, i2] → c ≠ z ∧ c ≠ TO ∧ c ≠ i1 ∧ c ≠ i2 := fun c n => by
      simp only [List.mem_cons, List.not_mem_nil, or_false, not_or] at n
      exact ⟨n.1, n.2.2.1, n.2.2.2.1, n.2.2.2.2⟩
    have J := I.turnedNew (t' := m) (ch := [z, TI, TO, i1, i2]) (fun c o n q => (sb.2 c (out c n).1).trans (k c o (out c n).1 (out c n).2.1 (out c n).2.2.1 (out c n).2.2.2 q)) fp (Nat.le_refl _) new
    refine ⟨.ref s.heap.objs.size, _, J, rfl, ⟨_, _, _, rfl, I.hok.fresh (Nat.le_refl _), rfl, ex, ey⟩, ⟨z2, (sb.2 _ D.TIz).trans (k _ _ D.TIz D.TITO D.TIi1 D.TIi2 hTI), ?_, PSZ.at_text j1 fun o q => (sb.2 _ D.i1z).trans q, PSZ.at_text j2 fun o q => (sb.2 _ D.i2z).trans q⟩, fun c m => ?_⟩
    · obtain ⟨a', b', q⟩ := o'
      exact ⟨a', b', (sb.2 _ D.TOz).trans q⟩
    · have lt : c < s.heap.objs.size := by
        have which : c = z ∨ c = TI ∨ c = TO ∨ c = i1 ∨ c = i2 := by simpa using m
        rcases which with rfl | rfl | rfl | rfl | rfl
        · exact lz
        · exact Heap.lt_size hTI
        · exact Heap.lt_size hTO
        · obtain ⟨_, q, _⟩ := h1
          exact Heap.lt_size q
        · obtain ⟨_, q, _⟩ := h2
          exact Heap.lt_size q
      rw [upd_ne (Nat.ne_of_lt lt)]
      exact (fp c m).1
  done := by
    intro X e1 e2 e3 calm i pins s σ H E I fp st stop
    subst e1 e2 e3
    obtain ⟨hz, hTI, ⟨a, b, hTO⟩, h1, h2⟩ := st
    have fin : x.cps[i]? = none ∨ y.cps[i]? = none := stop.imp Array.getElem?_eq_none Array.getElem?_eq_none
    have out : ∀ c, c ∉ [z, TI, TO, i1, i2] → c ≠ z ∧ c ≠ TO ∧ c ≠ i1 ∧ c ≠ i2 := fun c n => by
      simp only [List.mem_cons, List.not_mem_nil, or_false, not_or] at n
      exact ⟨n.1, n.2.2.1, n.2.2.2.1, n.2.2.2.2⟩
    exact PSZ.next_zipS_end (I.ok.hd calm) D (PSZ.textTy x) (PSZ.textTy y) hz hTI hTO h1 h2 fin fun g m k => ⟨rfl, I.turnedL (t' := m) (ch := [z, TI, TO, i1, i2]) (fun c o n q => k c o (out c n).1 (out c n).2.1 (out c n).2.2.1 (out c n).2.2.2 q) fp⟩
  self := fun A i s Q E st h => wpAny_pyIter_zip st.1 h
def iZipS (ta : TA) : TI := fun σ H R => ta σ H fun vs H1 => ∃ x y, vs = [.str x, .str y] ∧ R (Itzs x y) H1
theorem pi_zipS {X : Cx} {e e2 : Expr} {ta : TA} {p pos tp : Pos} {tg : List Expr} {n : Nat} (hg : Gl X "zip") (hm : X.mg "zip" = none) (ha : PA X [e, e2] ta)
    (se : starEach [e, e2] X.env = (false, eval e X.env) :: starEach [e2] X.env := by rfl) (sn : (backTo pos (starEach [e2] X.env)).any (·.1) = false := by rfl) :
    PI X (.Tuple tg n tp) (.Call (.Name "zip" p) [e, e2] [] pos) (iZipS ta) := by
  refine ⟨fun pins s σ H R I h => ?_⟩
  refine PyProof.Rows.Call_ (ld_blt I hg hm PyProof.Rows.boot_zip (PyProof.Rows.callWith_type1 (thn (ha.run pos pins s σ H _ I h) fun us s1 ⟨vs, H1, I1, r1, x, y, ev, q⟩ => ?_) se sn))
  subst ev
  obtain ⟨u1, u2, rfl, rx, ry⟩ := vals2 r1
  obtain ⟨t, rfl⟩ := rx
  obtain ⟨u, rfl⟩ := ry
  have pos0 : 0 < s1.heap.objs.size := Nat.lt_of_le_of_lt (Nat.zero_le _) I1.big
  refine PSZ.call_zipS fun g hz hTI hTO h1 h2 k => wpAny_pyIter_zip hz ?_
  have I2 : Inv X pins σ H1 { s1 with heap := g } := I1.kept (t' := s1.toks) k
  refine ⟨s1.heap.objs.size + 4, [s1.heap.objs.size + 4, s1.heap.objs.size + 2, s1.heap.objs.size + 3, s1.heap.objs.size, s1.heap.objs.size + 1], _, _, H1, rfl, I2, turn_zipS (PySem.W.ktu_apart s1.heap.objs.size 0 0 pos0 pos0), ⟨hz, hTI, ⟨_, _, hTO⟩, h1, h2⟩, fun c m => ?_, q⟩
  have le : s1.heap.objs.size ≤ c := by
    simp only [List.mem_cons, List.not_mem_nil, or_false] at m
    rcases m with z | z | z | z | z
    · exact z ▸ Nat.le_add_right _ _
    · exact z ▸ Nat.le_add_right _ _
    · exact z ▸ Nat.le_add_right _ _
    · exact z ▸ Nat.le_refl _
    · exact z ▸ Nat.le_add_right _ _
  exact I1.fpOk le (I1.hok.fresh le)
/-- a loop over the pairs of two texts -/
theorem for_zipS {x y : Str} {g : TG} {tb : TS} {D : Ends} {σ : L2.St} {H : Hp} (Pv : Nat → L2.St → Hp → Prop) (h0 : Pv 0 σ H)
    (hs : ∀ (i c d : Nat) (T : Addr) (σ : L2.St) (H : Hp), x.cps[i]? = some c → y.cps[i]? = some d → Pv i σ H → H T = none → g (.ref T) σ (upd H T (.tup [.str ⟨#[c]⟩, .str ⟨#[d]⟩])) fun σ2 H2 => tb { D with nx := Pv (i + 1), ct := Pv (i + 1), bk := D.nx } σ2 H2)
    (hd : ∀ i σ H, x.cps.size ≤ i ∨ y.cps.size ≤ i → i ≤ x.cps.size → i ≤ y.cps.size → Pv i σ H → D.nx σ H) :
    ∃ W : Nat → Nat → L2.St → Hp → Prop, (∃ m, W 0 m σ H) ∧ ∀ i m σ H, W i m σ H →
      ((Itzs x y).stop i H ∧ D.nx σ H) ∨ ((Itzs x y).go i H ∧ ∃ N : L2.St → Hp → Prop, (∀ σ' H', N σ' H' → ∃ m', m' < m ∧ W (i + 1) m' σ' H') ∧ ∀ v H', (Itzs x y).yld i H v H' → g v σ H' fun σ2 H2 => tb { D with nx := N, ct := N, bk := D.nx } σ2 H2) := by
  refine ⟨fun i m σ H => m = x.cps.size - i ∧ i ≤ x.cps.size ∧ i ≤ y.cps.size ∧ Pv i σ H, ⟨x.cps.size, rfl, Nat.zero_le _, Nat.zero_le _, h0⟩, ?_⟩
  rintro i m σ H ⟨rfl, l1, l2, p⟩
  by_cases go : i < x.cps.size ∧ i < y.cps.size
  · refine .inr ⟨go, Pv (i + 1), fun σ' H' p' => ⟨x.cps.size - (i + 1), by omega, rfl, go.1, go.2, p'⟩, fun v H' yl => ?_⟩
    obtain ⟨T, c, d, rfl, hT, rfl, e1, e2⟩ := yl
    exact hs i c d T σ H e1 e2 p hT
  · have fin : x.cps.size ≤ i ∨ y.cps.size ≤ i := by omega
    exact .inl ⟨fin, hd i σ H fin l1 l2 p⟩
end PSG

set_option Elab.async false
set_option linter.all false
set_option maxRecDepth 100000
set_option maxHeartbeats 4000000
namespace PSG
open PySem PySem.Spec L2
open PyProof.Rows (IntsAre AllBare)
/-! ### own exceptions of any base, raised -/
/-- what an exception that is held bears: its dict, if it has attributes -/
def ExS (H : Hp) (d : Option Addr) (fs : List (Str × V)) : Prop := (d = none ∧ fs = []) ∨ ∃ dx, d = some dx ∧ fs ≠ [] ∧ H dx = some (exd dx fs)
theorem ExS.same {H H' : Hp} {d : Option Addr} {fs : List (Str × V)} (x : ExS H d fs) (s : Same H H') : ExS H' d fs := by
  rcases x with x | ⟨dx, e, n, h⟩
  · exact .inl x
  · exact .inr ⟨dx, e, n, s _ _ h⟩
/-- the new exception is no longer tracked, its dict stands -/
theorem let_go {X : Cx} {pins : List (Addr × Obj)} {σ : L2.St} {H1 H2 : Hp} {hp hp2 h2 : Heap} {g1 g2 : Array GenState} {r1 r2 : Drawn} {t1 t2 : Nat} {os1 os2 : OsState} {a C : Addr} {d : Option Addr} (I : Inv X pins σ H1 ⟨hp, g1, r1, t1, os1⟩)
    (above : hp.objs.size ≤ a) (old : ∀ b o, hp.get? b = some o → hp2.get? b = some o) (un : Un (frs X.stack) [] (upd H1 a (exo a C none)) H2 hp2 h2) (hok : HOk X.prog X.w H2 h2) (eos : os2 = os1) (bare : AllBare g2) (ea : H2 a = some (exo a C d)) :
    ∃ (t0 : Addr) (G : Heap), Inv X pins σ (del H2 a) ⟨G, g2, r2, t2, os2⟩ ∧ (∀ b o, G.get? b = some o → h2.get? b = some o) ∧ G.get? a = none ∧
      h2.get? a = some ({ cls := .ref C, dict := d, data := .fields #[.ref t0, .none, .none, .none, .bool false, .none] } : Obj) := by
  obtain ⟨t0, at_⟩ := exo_at hok ea
  have n1 : H1 a = none := I.hok.fresh above
  obtain ⟨G, yes, no⟩ := restrict h2 fun b => decide (b ≠ a)
  have gk : ∀ b, b ≠ a → G.get? b = h2.get? b := fun b n => yes b (decide_eq_true n)
  have ga : G.get? a = none := no a (by simp)
  have off : ∀ {b : Addr} {o : Obj}, hp.get? b = some o → b ≠ a := fun {b o} z => Nat.ne_of_lt (Nat.lt_of_lt_of_le (Heap.lt_size z) above)
  have up : ∀ {b : Addr} {u : Option HO}, b ≠ a → H1 b = u → upd H1 a (exo a C none) b = u := fun {b u} n e => (upd_ne n).trans e
  have U : Un (frs X.stack) [] H1 (del H2 a) hp G := {
    keep := fun b o z n f x => (gk b (off z)).trans (un.keep b o (old b o z) (up (off z) n) f x)
    slot := fun b o z n f x => by
      rw [gk b (off z)]
      exact un.slot b o (old b o z) (up (off z) n) f x
    free := fun b o z n x => (del_ne (off z)).trans (un.free b o (old b o z) (up (off z) n) x)
    there := fun b o z x => by
      rw [gk b (off z)]
      exact un.there b o (old b o z) x
    tups := fun b xs z => (del_ne (ne_of_none z n1)).trans (un.tups b xs (up (ne_of_none z n1) z))
    frzs := fun b o v z => (del_ne (ne_of_none z n1)).trans (un.frzs b o v (up (ne_of_none z n1) z))
    tbls := fun b ps z => by
      rw [del_ne (ne_of_none z n1)]
      exact un.tbls b ps (up (ne_of_none z n1) z) }
  have hok2 : HOk X.prog X.w (del H2 a) G := fun b o z => by
    have nb : b ≠ a := fun e => by
      rw [e, del_same] at z
      cases z
    rw [del_ne nb] at z
    refine (hok b o z).stay (fun c v hc y => ?_) (fun c hc => (del_ne (at_ne ea hc exo_own)).trans hc) fun c xs hc => (del_ne (at_ne ea hc exo_tup)).trans hc
    have nc : c ≠ a := by
      rcases hc with hc | hc
      · rw [hc]
        exact nb
      · exact at_ne ea hc exo_own
    exact (gk c nc).trans y
  refine ⟨t0, G, I.call' (ch := []) eos U hok2 bare (fun b z => absurd z (by simp)), fun b o z => ?_, ga, at_⟩
  by_cases e : b = a
  · rw [e, ga] at z
    cases z
  · exact (gk b e).symm.trans z
/-- C(e, ..): the exception's class, its dict, and what the state is then -/
def tPmk (C : Addr) (fn : List Str) (t : TA) : L2.St → Hp → XK → Prop := fun σ H Q => t σ H fun vs H1 => vs.length = fn.length ∧ fn.length ≤ 1000 ∧ ∀ d H3, Same H1 H3 → ExS H3 d (fn.zip vs).reverse → Q (.ref C) d H3
section
variable {X : Cx} {x : Str} {C fI : Addr} {n : Nat} {fd : FuncData} {ps fn : List Str} {B newId initId : String} {bmB : List Value} {p pos : Pos}
theorem pmade {pins : List (Addr × Obj)} {σ : L2.St} {H1 : Hp} {hp : Heap} {g : Array GenState} {dr : Drawn} {tk : Nat} {os : OsState} {Q : XK} {us : List Value} {vs : List V} (T : Xk X.K C fI B newId initId bmB)
    (F : FnOk X.prog X.w X.K X.mg X.base CX0 n fI fd ps (spXI C fn)) (room : Room (n + 1) X.A) (I1 : Inv X pins σ H1 ⟨hp, g, dr, tk, os⟩) (lay : List Value)
    (bi : ∀ s : Shared, X.K.In s.heap → BindsTo s fd ⟨Value.ref (hp.objs.size + 1) :: us, []⟩ (ps.zip (.ref (hp.objs.size + 1) :: us))) (va : Vals vs us) (len : vs.length = fn.length)
    (ho : ∀ d H3, Same H1 H3 → ExS H3 d (fn.zip vs).reverse → Q (.ref C) d H3) :
    codeAny (model X.prog X.w) (X.A.under (.builtin "type.__call__" ⟨.ref C :: lay, []⟩)) (.call (.ref fI) ⟨Value.ref (hp.objs.size + 1) :: us, []⟩)
      (PySem.W.InitBack (hp.objs.size + 1) fun r s' => match r with | .ok (.ret v) => MkP X pins σ Q v s' | .ok _ => False | .error e => X.xe e s')
      ⟨(hp.push (PySem.W.kdv_tup lay)).push (PySem.HandSPX.excO C hp.objs.size), g, dr, tk, os⟩ := by
  have big : hp.objs.size ≤ hp.objs.size + 1 := Nat.le_succ _
  have free : H1 (hp.objs.size + 1) = none := I1.hok.fresh big
  have old : ∀ b o, hp.get? b = some o → ((hp.push (PySem.W.kdv_tup lay)).push (PySem.HandSPX.excO C hp.objs.size)).get? b = some o := fun b o e => Heap.get?_push_of_some _ (Heap.get?_push_of_some _ e)
  have new : ((hp.push (PySem.W.kdv_tup lay)).push (PySem.HandSPX.excO C hp.objs.size)).get? (hp.objs.size + 1) = some (PySem.HandSPX.excO C hp.objs.size) := by heap_get
  have I2 := I1.laid (t' := tk) (a := hp.objs.size + 1) (o := exo (hp.objs.size + 1) C none) (h' := (hp.push (PySem.W.kdv_tup lay)).push (PySem.HandSPX.excO C hp.objs.size)) old big (exo_ok new)
  refine codeAny_mono (F.run _ X.stack _ _ _ (Value.ref (hp.objs.size + 1) :: us) (V.ref (hp.objs.size + 1) :: vs) (fun v H2 => v = .non ∧ (∀ b o, b ≠ hp.objs.size + 1 → H1 b = some o → H2 b = some o) ∧ ExV H2 (hp.objs.size + 1) C (fn.zip vs).reverse) (fun _ _ _ => False)
    (room.make C lay []) (I2.env0.make C lay []) (bi _ I2.kIn) (.cons rfl va) ⟨_, vs, rfl, len, upd_same, fun H2 k ex => ⟨rfl, fun b o nb e => k b o nb ((upd_ne nb).trans e), ex⟩⟩) fun r s' z => ?_
  match r, z with
  | .ok (.ret u), z =>
    obtain ⟨v, H2, eos, bare, un, hok, rel, ev, k, ex⟩ := z
    subst ev
    obtain ⟨h2, g2, r2, t2, os2⟩ := s'
    have fin : ∀ d, H2 (hp.objs.size + 1) = some (exo (hp.objs.size + 1) C d) → ExS (del H2 (hp.objs.size + 1)) d (fn.zip vs).reverse → MkP X pins σ Q (.ref (hp.objs.size + 1)) ⟨h2, g2, r2, t2, os2⟩ := fun d ea xs => by
      obtain ⟨t0, G, J, sub, ga, at_⟩ := let_go (r2 := r2) (t2 := t2) I1 big old un hok eos bare ea
      refine ⟨hp.objs.size + 1, _, _, ⟨G, g2, r2, t2, os2⟩, _, .ref C, d, rfl, J, sub, ga, at_, ⟨rfl, rfl⟩, rfl, rfl, del_same, rfl, bare, raises_own T.exc T.ty, ho d _ (fun b o e => ?_) xs⟩
      have nb : b ≠ hp.objs.size + 1 := ne_of_none e free
      exact (del_ne nb).trans (k b o nb e)
    refine ⟨rel, ?_⟩
    rcases ex with ⟨e, ea⟩ | ⟨d, e, ea, ed⟩
    · exact fin none ea (.inl ⟨rfl, e⟩)
    · refine fin (some d) ea (.inr ⟨d, rfl, e, (del_ne fun z => ?_).trans ed⟩)
      obtain ⟨t0, at_⟩ := exo_at hok ea
      obtain ⟨mA, ⟨o, es, ep, e1, e2, _⟩, _⟩ := exd_at hok ed
      rw [z, at_] at e1
      have e3 := Option.some.inj e1
      subst e3
      cases e2
  | .ok .next, z => exact z.elim
  | .ok .brk, z => exact z.elim
  | .ok .cont, z => exact z.elim
  | .error er, z => exact z.elim
theorem pmk_xk {e : Expr} {es : List Expr} {t : TA} (T : Xk X.K C fI B newId initId bmB) (F : FnOk X.prog X.w X.K X.mg X.base CX0 n fI fd ps (spXI C fn)) (room : Room (n + 1) X.A) (bi : Binds X.K fd ps []) (hps : ps.length = fn.length + 1)
    (hg : Gl X x) (hm : X.mg x = some (.ref C)) (ha : PA X (e :: es) t) (nd : (x == ("__debug__" : Str)) = false := by decide)
    (se : starEach (e :: es) X.env = (false, eval e X.env) :: starEach es X.env := by rfl) (sn : (backTo pos (starEach es X.env)).any (·.1) = false := by rfl) :
    PMk X (.Call (.Name x p) (e :: es) [] pos) (tPmk C fn t) := by
  intro pins s σ H Q I h
  refine wpAny_Call_Name_kw (ld_glob I hg hm ?_ nd)
  refine PySem.W.callWith_K (h₀ := X.base) I.ok.mod.kin T.keep (thn (ha.run pos pins s σ H _ I h) fun us s1 ⟨vs, H1, I1, r1, hl, hz, q1⟩ => ⟨I1.kIn, ?_⟩) se sn
  show wpAny _ _ (call (.ref C) us) _ _ _
  obtain ⟨hp, g, dr, tk, os⟩ := s1
  obtain ⟨nm, N, qn, bs, bm, hdct, sb, sub, ab, col, dd, k0, k1, k2, k3, k5, hC, same⟩ := PySem.W.excInit_of I1.kIn T.made
  have lu : us.length = fn.length := r1.length.symm.trans hl
  refine wpAny_call (PySem.HandSPX.call_own T.fb same hC (PySem.W.looks_findIn I1.kIn T.init) (fun self => PySem.W.bind_fn I1.kIn self T.fn) (by rw [sizeLine_eq]; omega) ?_)
  refine codeAny_mono (pmade (Q := Q) T F room I1 us (us := us) (fun s2 k2 => ?_) r1 hl q1) fun r s' z => z
  have z := bi s2 (Value.ref (hp.objs.size + 1) :: us) k2 (by rw [List.append_nil, List.length_cons, lu, hps])
  rw [List.append_nil] at z
  exact z
theorem pmk_xk0 (T : Xk X.K C fI B newId initId bmB) (F : FnOk X.prog X.w X.K X.mg X.base CX0 n fI fd ps (spXI C [])) (room : Room (n + 1) X.A) (bi : Binds X.K fd ps []) (hps : ps.length = 1)
    (hg : Gl X x) (hm : X.mg x = some (.ref C)) (nd : (x == ("__debug__" : Str)) = false := by decide) : PMk X (.Call (.Name x p) [] [] pos) (tPmk C [] tNil) := by
  intro pins s σ H Q I h
  refine wpAny_Call_Name_kw (ld_glob I hg hm ?_ nd)
  refine PySem.W.callWith_K0 I.kIn T.keep ?_
  obtain ⟨hp, g, dr, tk, os⟩ := s
  obtain ⟨nm, N, qn, bs, bm, hdct, sb, sub, ab, col, dd, k0, k1, k2, k3, k5, hC, same⟩ := PySem.W.excInit_of I.kIn T.made
  refine wpAny_call (PySem.HandSPX.call_own T.fb same hC (PySem.W.looks_findIn I.kIn T.init) (fun self => PySem.W.bind_fn I.kIn self T.fn) (Nat.zero_le _) ?_)
  refine codeAny_mono (pmade (Q := Q) (vs := []) T F room I [] (us := []) (fun s2 k2 => ?_) .nil rfl h.2.2) fun r s' z => z
  exact bi s2 [Value.ref (hp.objs.size + 1)] k2 (by rw [List.append_nil, hps]; rfl)
end
/-! ### in an except suite -/
section
variable {X : Cx} {a : Addr} {oe : Obj} {cls : Value} {d : Option Addr} {pn : List (Addr × Obj)}
theorem held {D : Addr} {fs : List (Str × V)} {pins : List (Addr × Obj)} {σ : L2.St} {H : Hp} {s : Shared} (hz : Zc (.ref D) d oe) (hf : ∃ vs, oe.data = .fields vs) (I : Inv (X.suite a ((a, oe) :: pn)) pins σ H s) (x : ExS H d fs) :
    ∃ od, PySem.W.InstAt s.heap a oe D od := by
  obtain ⟨vs, hv⟩ := hf
  obtain ⟨at_, _⟩ := I.pin (a, oe) (List.mem_append_left _ List.mem_cons_self)
  have nc : PySem.W.notCls oe = true := by
    unfold PySem.W.notCls
    rw [hv]
  rcases x with ⟨rfl, _⟩ | ⟨dx, rfl, _, h⟩
  · exact ⟨none, at_, hz.1, nc, by rw [hz.2]; trivial⟩
  · obtain ⟨mA, hns, _⟩ := exd_at I.hok h
    obtain ⟨o, ho, _⟩ := lookIn_ns hns
    exact ⟨some o, at_, hz.1, nc, by rw [hz.2]; exact ho⟩
/-- isinstance(e, c) and isinstance(e, (c, ..)) of the exception that is held -/
def rHis (K : PySem.W.Frag) (a : Addr) (cls : Value) (d : Option Addr) : List V → Hp → VK → Prop := fun xs H Q => ∃ (D : Addr) (fs : List (Str × V)) (b : Bool), cls = .ref D ∧ ExS H d fs ∧ PySem.W.XcC K D ∧
  ((∃ (c : V) (u : Value), xs = [.ref a, c] ∧ ClsV c u ∧ PySem.W.kitOne K (.ref D) u = some b) ∨ ∃ (tp : Addr) (cs : List V) (us : List Value), xs = [.ref a, .ref tp] ∧ H tp = some (.tup cs) ∧ Paired ClsV cs us ∧ PySem.W.kitAny K (.ref D) us = some b) ∧ Q (.bl b) H
theorem call_his (hz : Zc cls d oe) (hf : ∃ vs, oe.data = .fields vs) : CallR (X.suite a ((a, oe) :: pn)) (.builtin "isinstance") (rHis X.K a cls d) := by
  intro pins s σ H xs us Q I r h
  obtain ⟨D, fs, b, rfl, x, T, k, q⟩ := h
  obtain ⟨od, J⟩ := held hz hf I x
  rcases k with ⟨c, u, rfl, k, e⟩ | ⟨tp, cs, ws, rfl, hT, k, e⟩
  · obtain ⟨u1, u2, rfl, r1, r2⟩ := vals2 r
    cases r1
    have e2 := k.eq r2
    subst e2
    exact PySem.W.kia_one (T.kit (x := a) (ox := oe)) I.kIn ⟨od, J⟩ e (fun z => nomatch z) fun tk => ⟨.bl b, H, I.tok tk, rfl, q⟩
  · obtain ⟨u1, u2, rfl, r1, r2⟩ := vals2 r
    cases r1
    cases r2
    obtain ⟨_, its, rv, o, h1, h2, n, h3⟩ := (show ObjOk X.prog X.w H s.heap tp (.tup cs) from I.hok tp _ hT)
    have e3 := ClsV.all k rv
    subst e3
    obtain ⟨oc, oD, dt, sl⟩ := o
    simp only at h2 h3
    subst h2 h3
    exact PySem.W.kia_tup (T.kit (x := a) (ox := oe)) I.kIn ⟨od, J⟩ h1 e (fun z => nomatch z) fun tk => ⟨.bl b, H, I.tok tk, rfl, q⟩
/-- e.n of the exception that is held -/
def tHfld (K : PySem.W.Frag) (a : Addr) (cls : Value) (d : Option Addr) (n : Str) (te : TE) : TE := fun σ H Q => te σ H fun x H1 => ∃ (D : Addr) (fs : List (Str × V)) (v : V), x = .ref a ∧ cls = .ref D ∧ ExS H1 d fs ∧ PySem.W.XcC K D ∧ PySem.W.findIn K (.ref D) n = some none ∧ fs.lookup n = some v ∧ Q v H1
theorem pe_hfld {e : Expr} {te : TE} {pos : Pos} {n : Str} (hz : Zc cls d oe) (hf : ∃ vs, oe.data = .fields vs) (he : PE (X.suite a ((a, oe) :: pn)) e te) (hb : attributeBase e n X.env (eval e X.env) = eval e X.env := by rfl) :
    PE (X.suite a ((a, oe) :: pn)) (.Attribute e n pos) (tHfld X.K a cls d n te) where
  run := fun pins s σ H Q I h => by
    refine attr_of hb (thn (he.run pins s σ H _ I h) fun u s1 hh => ?_)
    obtain ⟨x, H1, I1, rx, D, fs, v, ex, ec, xs, T, no, l, q⟩ := hh
    subst ex ec
    cases rx
    rcases xs with ⟨_, e⟩ | ⟨dx, ed, _, h2⟩
    · rw [e] at l
      cases l
    · subst ed
      obtain ⟨vs, hv⟩ := hf
      obtain ⟨at_, _⟩ := I1.pin (a, oe) (List.mem_append_left _ List.mem_cons_self)
      obtain ⟨mA, hns, rel⟩ := exd_at I1.hok h2
      obtain ⟨o, ho, look⟩ := lookIn_ns hns
      obtain ⟨w, hw, rw_⟩ := RelO.some_of (v := v) (o := mA n) (by rw [← l]; exact rel n)
      have J : PySem.W.InstAt s1.heap a oe D (some o) := ⟨at_, hz.1, by unfold PySem.W.notCls; rw [hv] <;> rfl, by rw [hz.2]; exact ho⟩
      exact PySem.HandSPX.exc_get I1.kIn J T.get T.get2 T.exc (PySem.W.findObj_own T.dict no rfl (by rw [look, hw])) (handed_of rw_) ⟨v, H1, I1.tok _, rw_, q⟩
end
/-! ### f(k = v, ..) of a def that may raise -/
section
variable {X : Cx} {CT : CXT} {k : Nat} {f : Addr} {fd : FuncData} {ps ks : List Str} {sp : Sp} {E : L2.St → XK} {x : Str} {p pos : Pos} {kws : List Keyword} {t : TA}
theorem pe_callW (F : FnOk X.prog X.w X.K X.mg X.base CT k f fd ps sp) (room : Room k X.A) (hg : Gl X x) (hm : X.mg x = some (.ref f)) (keep : PySem.W.keepIn X.K (.ref f) = true)
    (bi : ∀ (s : Shared) (ws : List Value), X.K.In s.heap → ws.length = ks.length → BindsTo s fd ⟨[], ks.zip ws⟩ (ps.zip ws)) (lk : ks.length = ps.length) (pass : ∀ σ, PassesAt CT X σ (E σ))
    (ha : PK X kws t) (hall : (backToKw pos (keywordEach kws X.env)).all (·.1.isSome) = true := by rfl) (hks : (backToKw pos (keywordEach kws X.env)).filterMap (·.1) = ks := by rfl)
    (nd : (x == ("__debug__" : Str)) = false := by decide) (sn : ((backTo pos (starEach [] X.env)).any (·.1) || (backToKw pos (keywordEach kws X.env)).any (·.1.isNone)) = false := by rfl) :
    PE X (.Call (.Name x p) [] kws pos) (tCallS sp E t) where
  run := fun pins s σ H Q I h => by
    refine wpAny_Call_Name_kw (ld_glob I hg hm ?_ nd)
    refine PySem.W.callWith_KW0 (h₀ := X.base) I.ok.mod.kin keep hall (thn (ha.run pos pins s σ H _ I h) fun ws s1 ⟨vs, H1, I1, r1, q1⟩ => ⟨I1.kIn, ?_⟩) sn
    rw [hks]
    show wpAny _ _ (call (.ref f) [] (ks.zip ws)) _ _ _
    have lw : ws.length = ks.length := (r1.length.symm.trans (F.len _ _ _ _ q1)).trans lk.symm
    refine wpAny_call (codeAny_mono (F.run X.A X.stack s1 H1 ⟨[], ks.zip ws⟩ ws vs Q (E σ) room I1.env0 (bi s1 ws I1.kIn lw) r1 q1) fun r s' z => ?_)
    match r, z with
    | .error er, z => exact pass σ pins H1 s1 er s' I1 z
    | .ok (.ret u), z => exact I1.after z
end
end PSG

set_option Elab.async false
set_option linter.all false
set_option maxRecDepth 100000
set_option maxHeartbeats 4000000
namespace PSG
open PySem PySem.Spec L2
open PyProof.Rows (IntsAre AllBare)
/-- repr(x) of data, also in an except suite -/
theorem call_reprH {X : Cx} (un : X.A.units + 200 < cLine) (gd : X.A.guards = some []) : CallR X (.builtin "repr") rRep := by
  intro pins s σ H xs us Q I r ho
  obtain ⟨x, d, far, rfl, dq, cl, sh, sz, dp, q⟩ := ho
  obtain ⟨u, rfl, rx⟩ := vals1 r
  obtain ⟨as, rd, no1⟩ := dq.reads I rx
  have nosys : d.hasDict = true → sysModules ∉ as := fun z => no1 (cl z)
  have fin : ∀ t, EP X pins σ Q (.str d.shown t) s := fun t => ⟨.str _, H, I, ⟨_, rfl⟩, q⟩
  have got : ∀ h' (t tk : Tok), (∀ b o, s.heap.get? b = some o → h'.get? b = some o) → EP X pins σ Q (.str d.shown t) { s with heap := h', toks := tk } := fun h' t tk k => ⟨.str _, H, I.kept k, ⟨_, rfl⟩, q⟩
  cases rd with
  | none => exact P.repr_of_none ⟨.str _, H, I.tok _, ⟨_, rfl⟩, by simpa only [PyData.shown] using q⟩
  | bool b =>
    refine P.repr_of_bool ⟨.str _, H, I.tok _, ⟨_, rfl⟩, ?_⟩
    simp only [PyData.shown] at q
    cases b <;> exact q
  | int i t => exact P.repr_of_int (by simpa [PyData.showable] using sh) ⟨.str _, H, I.tok _, ⟨_, rfl⟩, by simpa only [PyData.shown] using q⟩
  | str z t =>
    simp only [PyData.shown] at q sz
    exact P.repr_of_str ⟨.str _, H, I.tok _, ⟨_, rfl⟩, q⟩ sz
  | list h1 h2 h3 h4 => exact repr_of_reads' (Reads.list h1 h2 h3 h4) sh nosys gd (by omega) (fun _ _ z => z) (fun h' u tk k => got h' _ tk k) sz
  | tuple h1 h2 h3 h4 => exact repr_of_reads' (Reads.tuple h1 h2 h3 h4) sh nosys gd (by omega) (fun _ _ z => z) (fun h' u tk k => got h' _ tk k) sz
  | dict h1 h2 h3 h4 h5 => exact repr_of_reads' (Reads.dict h1 h2 h3 h4 h5) sh nosys gd (by omega) (fun _ _ z => z) (fun h' u tk k => got h' _ tk k) sz
theorem room_units {n : Nat} {A : Around} (r : Room n A) : A.units + 200 < cLine := by
  have h := r.un
  omega
end PSG

set_option Elab.async false
set_option linter.all false
set_option maxRecDepth 100000
set_option maxHeartbeats 4000000
namespace PSG
open PySem PySem.Spec L2
open PyProof.Rows (IntsAre AllBare)
/-! ### the exception that is held, where a pin bears it -/
section
variable {X : Cx} {a : Addr} {oe : Obj} {cls : Value} {d : Option Addr}
theorem heldP {D : Addr} {fs : List (Str × V)} {pins : List (Addr × Obj)} {σ : L2.St} {H : Hp} {s : Shared} (hp : (a, oe) ∈ X.pn) (hz : Zc (.ref D) d oe) (hf : ∃ vs, oe.data = .fields vs) (I : Inv X pins σ H s) (x : ExS H d fs) :
    ∃ od, PySem.W.InstAt s.heap a oe D od := by
  obtain ⟨vs, hv⟩ := hf
  obtain ⟨at_, _⟩ := I.pin (a, oe) (List.mem_append_left _ hp)
  have nc : PySem.W.notCls oe = true := by
    unfold PySem.W.notCls
    rw [hv]
  rcases x with ⟨rfl, _⟩ | ⟨dx, rfl, _, h⟩
  · exact ⟨none, at_, hz.1, nc, by rw [hz.2]; trivial⟩
  · obtain ⟨mA, hns, _⟩ := exd_at I.hok h
    obtain ⟨o, ho, _⟩ := lookIn_ns hns
    exact ⟨some o, at_, hz.1, nc, by rw [hz.2]; exact ho⟩
theorem call_hisP (hp : (a, oe) ∈ X.pn) (hz : Zc cls d oe) (hf : ∃ vs, oe.data = .fields vs) : CallR X (.builtin "isinstance") (rHis X.K a cls d) := by
  intro pins s σ H xs us Q I r h
  obtain ⟨D, fs, b, rfl, x, T, k, q⟩ := h
  obtain ⟨od, J⟩ := heldP hp hz hf I x
  rcases k with ⟨c, u, rfl, k, e⟩ | ⟨tp, cs, ws, rfl, hT, k, e⟩
  · obtain ⟨u1, u2, rfl, r1, r2⟩ := vals2 r
    cases r1
    have e2 := k.eq r2
    subst e2
    exact PySem.W.kia_one (T.kit (x := a) (ox := oe)) I.kIn ⟨od, J⟩ e (fun z => nomatch z) fun tk => ⟨.bl b, H, I.tok tk, rfl, q⟩
  · obtain ⟨u1, u2, rfl, r1, r2⟩ := vals2 r
    cases r1
    cases r2
    obtain ⟨_, its, rv, o, h1, h2, n, h3⟩ := (show ObjOk X.prog X.w H s.heap tp (.tup cs) from I.hok tp _ hT)
    have e3 := ClsV.all k rv
    subst e3
    obtain ⟨oc, oD, dt, sl⟩ := o
    simp only at h2 h3
    subst h2 h3
    exact PySem.W.kia_tup (T.kit (x := a) (ox := oe)) I.kIn ⟨od, J⟩ h1 e (fun z => nomatch z) fun tk => ⟨.bl b, H, I.tok tk, rfl, q⟩
theorem pe_hfldP {e : Expr} {te : TE} {pos : Pos} {n : Str} (hp : (a, oe) ∈ X.pn) (hz : Zc cls d oe) (hf : ∃ vs, oe.data = .fields vs) (he : PE X e te) (hb : attributeBase e n X.env (eval e X.env) = eval e X.env := by rfl) :
    PE X (.Attribute e n pos) (tHfld X.K a cls d n te) where
  run := fun pins s σ H Q I h => by
    refine attr_of hb (thn (he.run pins s σ H _ I h) fun u s1 hh => ?_)
    obtain ⟨x, H1, I1, rx, D, fs, v, ex, ec, xs, T, no, l, q⟩ := hh
    subst ex ec
    cases rx
    rcases xs with ⟨_, e⟩ | ⟨dx, ed, nn, h2⟩
    · rw [e] at l
      cases l
    · obtain ⟨od, J⟩ := heldP hp hz hf I1 (.inr ⟨dx, ed, nn, h2⟩)
      subst ed
      obtain ⟨mA, hns, rel⟩ := exd_at I1.hok h2
      obtain ⟨o, ho, look⟩ := lookIn_ns hns
      obtain ⟨w, hw, rw_⟩ := RelO.some_of (v := v) (o := mA n) (by rw [← l]; exact rel n)
      obtain ⟨vs, hv⟩ := hf
      obtain ⟨at_, _⟩ := I1.pin (a, oe) (List.mem_append_left _ hp)
      have J2 : PySem.W.InstAt s1.heap a oe D (some o) := ⟨at_, hz.1, by unfold PySem.W.notCls; rw [hv] <;> rfl, by rw [hz.2]; exact ho⟩
      exact PySem.HandSPX.exc_get I1.kIn J2 T.get T.get2 T.exc (PySem.W.findObj_own T.dict no rfl (by rw [look, hw])) (handed_of rw_) ⟨v, H1, I1.tok _, rw_, q⟩
end
/-! ### a def that is called within an except suite, and may ask the exception that is held -/
structure FnE (P : Program) (w : World) (K : PySem.W.Frag) (mg : Str → Option Value) (base : Heap) (n : Nat) (at_ : Addr) (fd : FuncData) (ps : List Str) (sp : Addr × Obj → Sp) : Prop where
  many : ∀ p vs H Q E, sp p vs H Q E → vs.length = ps.length
  goes : ∀ (B : Around) (up : List Env) (s : Shared) (H : Hp) (ar : Args) (us : List Value) (vs : List V) (Q : VK) (E : XK) (p : Addr × Obj),
    L2H.RoomH n B → B.guards = some [] → L2H.PinOk up H s p → Env0 P w K mg base B up s H → BindsTo s fd ar (ps.zip us) → Vals vs us → sp p vs H Q E →
    codeAny (model P w) B (.call (.ref at_) ar) (CR CX0 up P w H s Q E) s
section
variable {P : Program} {w : World} {K : PySem.W.Frag} {mg : Str → Option Value} {base : Heap}
theorem fnE {n : Nat} {x ql : Str} {st : Stmt} {at_ : Addr} {fd : FuncData} {N ps : List Str} {sp : Addr × Obj → Sp} (F : Fun K x ql st at_ fd) (S : FnScope N ps (defScope st)) (many : ∀ p vs H Q E, sp p vs H Q E → vs.length = ps.length)
    (main : ∀ (cdv : Value) (B : Around) (up : List Env) (s : Shared) (H : Hp) (vs : List V) (Q : VK) (E : XK) (p : Addr × Obj), L2H.RoomH n (B.deeper (PyProof.Rows.envOfC ql (defScope st) s.heap.objs.size at_ cdv)) → B.guards = some [] → sp p vs H Q E →
      ∃ t, PSs (L2H.cxH CX0 P w K mg base N ql (defScope st) at_ cdv B up s H E p).nox (defBody st) t ∧ t { nx := fun _ G => Q .non G, rt := Q } (L2.start N vs) H) : FnE P w K mg base (n + 1) at_ fd ps sp where
  many := many
  goes := by
    obtain ⟨oc, od, kV, doc, pm, an, cdv, ct, osl, rfl, lk, hcd⟩ := F.ex
    intro B up s H ar us vs Q E p room gd pin en bi va ho
    have keepB : ∀ b o, base.get? b = some o → s.heap.get? b = some o := fun b o z => (en.bs b o z).1
    have atK := en.mod.kin.keeps keepB
    refine codeAny_call_function room.depth (atK _ _ lk) rfl S.co S.gen rfl (PySem.W.codeRec_of atK hcd) (bi _ _ _ _ ?_)
    refine wpAny_newFunctionEnv_cells S.kind (fun y hy => ?_) fun env he t1 x => ?_
    · obtain ⟨n, v⟩ := y
      cases S.par n (List.of_mem_zip hy).1 with
      | inl z => exact .inl z
      | inr z => exact .inr ⟨z, PySem.W.cellsFrom_some _ _ _ (.inl z)⟩
    · cases he
      refine ⟨(en.mod.nolimit.keeps keepB).keeps x.toInCall.keep, codeAny_func ?_⟩
      obtain ⟨t, der, rd⟩ := main cdv B up s H vs Q E p (room.deeper _) gd ho
      have J := L2H.inv_startH (CX := CX0) (E := E) S pin en (many _ _ _ _ _ ho) va x
      refine wpAny_mono (der.nox.run [] t1 _ H _ J rd) ?_ fun _ _ z => z
      intro fl t2 z
      cases fl with
      | next =>
        obtain ⟨_, G, J2, q⟩ := z
        exact ⟨V.non, G, J2.os, J2.bare, J2.base, J2.hok, rfl, q⟩
      | ret u =>
        obtain ⟨v, _, G, J2, rel, q⟩ := z
        exact ⟨v, G, J2.os, J2.bare, J2.base, J2.hok, rel, q⟩
      | brk => exact (show False from z.choose_spec.choose_spec.2).elim
      | cont => exact (show False from z.choose_spec.choose_spec.2).elim
end
/-- f(e, ..) in the suite -/
def tCallE (p : Addr × Obj) (sp : Addr × Obj → Sp) (t : TA) : TE := fun σ H Q => t σ H fun vs H1 => sp p vs H1 Q (fun _ _ _ => False)
section
variable {X : Cx} {n : Nat} {at_ : Addr} {fd : FuncData} {ps : List Str} {sp : Addr × Obj → Sp} {x : Str} {pa pos : Pos} {e : Expr} {es : List Expr} {t : TA} {p : Addr × Obj}
theorem pe_callE (F : FnE X.prog X.w X.K X.mg X.base n at_ fd ps sp) (hp : p ∈ X.pn) (room : L2H.RoomH n X.A) (gd : X.A.guards = some []) (hg : Gl X x) (hm : X.mg x = some (.ref at_)) (keep : PySem.W.keepIn X.K (.ref at_) = true)
    (bi : Binds X.K fd ps []) (ha : PA X (e :: es) t) (nd : (x == ("__debug__" : Str)) = false := by decide)
    (se : starEach (e :: es) X.env = (false, eval e X.env) :: starEach es X.env := by rfl) (sn : (backTo pos (starEach es X.env)).any (·.1) = false := by rfl) :
    PE X (.Call (.Name x pa) (e :: es) [] pos) (tCallE p sp t) where
  run := fun pins s σ H Q I h => by
    refine wpAny_Call_Name_kw (ld_glob I hg hm (PySem.W.callWith_K (h₀ := X.base) I.ok.mod.kin keep (thn (ha.run pos pins s σ H _ I h) fun us s1 ⟨vs, H1, I1, r, q⟩ => ⟨I1.kIn, ?_⟩) se sn) nd)
    have many : us.length = ps.length := r.length.symm.trans (F.many _ _ _ _ _ q)
    have b := bi s1 us I1.kIn (by rw [List.append_nil]; exact many)
    rw [List.append_nil] at b
    obtain ⟨g1, g2, g3, g4, g5⟩ := I1.pin p (List.mem_append_left _ hp)
    have pin : L2H.PinOk X.stack H1 s1 p := ⟨g1, g2, fun hm => (List.mem_cons.mp (I1.stkSub p.1 hm)).elim g3 g4, g5⟩
    refine wpAny_call (codeAny_mono (F.goes X.A X.stack s1 H1 ⟨us, []⟩ us vs Q (fun _ _ _ => False) p room gd pin I1.env0 b r q) fun r s' z => ?_)
    match r, z with
    | .error er, z => exact z.elim
    | .ok (.ret u), z => exact I1.after z
/-- .. as the suite's own wish, which knows the exception's class and dict alone -/
def tCallH (a : Addr) (cls : Value) (d : Option Addr) (sp : Addr × Obj → Sp) (t : TA) : TE := fun σ H Q => t σ H fun vs H1 => ∀ oe : Obj, Zc cls d oe → (∃ ws, oe.data = .fields ws) → sp (a, oe) vs H1 Q (fun _ _ _ => False)
theorem pe_callH {a : Addr} {oe : Obj} {cls : Value} {d : Option Addr} {pn : List (Addr × Obj)} (hz : Zc cls d oe) (hf : ∃ ws, oe.data = .fields ws) (F : FnE X.prog X.w X.K X.mg X.base n at_ fd ps sp) (room : Room n X.A) (gd : X.A.guards = some []) (hg : Gl X x) (hm : X.mg x = some (.ref at_))
    (keep : PySem.W.keepIn X.K (.ref at_) = true) (bi : Binds X.K fd ps []) (ha : PA (X.suite a ((a, oe) :: pn)) (e :: es) t) (nd : (x == ("__debug__" : Str)) = false := by decide)
    (se : starEach (e :: es) X.env = (false, eval e X.env) :: starEach es X.env := by rfl) (sn : (backTo pos (starEach es X.env)).any (·.1) = false := by rfl) :
    PE (X.suite a ((a, oe) :: pn)) (.Call (.Name x pa) (e :: es) [] pos) (tCallH a cls d sp t) where
  run := fun pins s σ H Q I h => by
    refine wpAny_Call_Name_kw (ld_glob (X := X.suite a ((a, oe) :: pn)) I hg hm (PySem.W.callWith_K (h₀ := X.base) I.ok.mod.kin keep (thn (ha.run pos pins s σ H _ I h) fun us s1 ⟨vs, H1, I1, r, q⟩ => ⟨I1.kIn, ?_⟩) se sn) nd)
    have q := q oe hz hf
    have many : us.length = ps.length := r.length.symm.trans (F.many _ _ _ _ _ q)
    have b := bi s1 us I1.kIn (by rw [List.append_nil]; exact many)
    rw [List.append_nil] at b
    obtain ⟨g1, g2, g3, g4, g5⟩ := I1.pin (a, oe) (List.mem_append_left _ List.mem_cons_self)
    have pin : L2H.PinOk X.stack H1 s1 (a, oe) := ⟨g1, g2, fun hm => (List.mem_cons.mp (I1.stkSub a hm)).elim g3 g4, g5⟩
    refine wpAny_call (codeAny_mono (F.goes (X.A.mark (some (.ref a))) X.stack s1 H1 ⟨us, []⟩ us vs Q (fun _ _ _ => False) (a, oe) ⟨room.dp, room.un⟩ gd pin I1.env0 b r q) fun r s' z => ?_)
    match r, z with
    | .error er, z => exact z.elim
    | .ok (.ret u), z => exact I1.after z
theorem room_hot {n : Nat} {A : Around} (r : Room n A) (h : Option Value) : L2H.RoomH n (A.mark h) := ⟨r.dp, r.un⟩
theorem roomH_units {n : Nat} {A : Around} (r : L2H.RoomH n A) : A.units + 200 < cLine := by
  have h := r.un
  omega
end
end PSG

set_option Elab.async false
set_option linter.all false
set_option maxRecDepth 100000
set_option maxHeartbeats 8000000
namespace PSG
open PySem PySem.Spec L2
open PyProof.Rows (IntsAre AllBare)
/-! ### what a thing is -/
def tyD : PyData → String
  | .none => "NoneType"
  | .bool _ => "bool"
  | .int _ => "int"
  | .str _ => "str"
  | .list _ => "list"
  | .tuple _ => "tuple"
  | .dict _ => "dict"
theorem Dt.ty {K : PySem.W.Frag} {far : Bool} {H : Hp} {v : V} {d : PyData} (h : Dt far H v d) : TyX K H v (.type (tyD d)) := by
  cases h with
  | non => exact .base .non
  | bl b => exact .base (.bl b)
  | int i => exact .base (.int i)
  | str x => exact .base (.str x)
  | lst e _ _ => exact .base (.lst e)
  | tup e _ => exact .base (.tup e)
  | dict e _ => exact .base (.dK e)
def isI : PyData → Bool
  | .int _ => true
  | .bool _ => true
  | _ => false
def isB : PyData → Bool
  | .bool _ => true
  | _ => false
def isS : PyData → Bool
  | .str _ => true
  | _ => false
theorem kit_int {K : PySem.W.Frag} (d : PyData) : PySem.W.kitOne K (.type (tyD d)) (.type "int") = some (isI d) := by cases d <;> kernel_rfl
theorem kit_bool {K : PySem.W.Frag} (d : PyData) : PySem.W.kitOne K (.type (tyD d)) (.type "bool") = some (isB d) := by cases d <;> kernel_rfl
theorem kit_str {K : PySem.W.Frag} (d : PyData) : PySem.W.kitOne K (.type (tyD d)) (.type "str") = some (isS d) := by cases d <;> kernel_rfl
def isT : PyData → Bool
  | .tuple _ => true
  | _ => false
theorem kit_tuple {K : PySem.W.Frag} (d : PyData) : PySem.W.kitOne K (.type (tyD d)) (.type "tuple") = some (isT d) := by cases d <;> kernel_rfl
/-- [.. for c in text] -/
theorem lc_str {x : Str} {g : TG} {tt : TT} {te : TE} {vs : List Nat} {σ : L2.St} {H1 : Hp} {D : Addr} {Qd : Hp → Prop} (Pv : Nat → Hp → Prop) (h0 : Pv 0 (upd H1 D (.lst [])))
    (hs : ∀ i c H, x.cps[i]? = some c → Pv i H → g (.str ⟨#[c]⟩) (wipe σ vs) H fun σ2 H2 => wipe σ2 vs = wipe σ vs ∧ tt σ2 H2 fun b H3 =>
      if b = true then te σ2 H3 fun y H4 => ∃ acc, H4 D = some (.lst acc) ∧ acc.length < sizeLine ∧ Pv (i + 1) (upd H4 D (.lst (acc ++ [y]))) else Pv (i + 1) H3) (hd : ∀ H, Pv x.cps.size H → Qd H) :
    ∃ W : Nat → Nat → Hp → Prop, (∃ m, W 0 m (upd H1 D (.lst []))) ∧ ∀ i m H, W i m H →
      ((Its x).stop i H ∧ Qd H) ∨ ((Its x).go i H ∧ ∃ Nx : Hp → Prop, (∀ H', Nx H' → ∃ m', m' < m ∧ W (i + 1) m' H') ∧ ∀ v H', (Its x).yld i H v H' → g v (wipe σ vs) H' fun σ2 H2 => wipe σ2 vs = wipe σ vs ∧ tt σ2 H2 fun b H3 =>
        if b = true then te σ2 H3 fun y H4 => ∃ acc, H4 D = some (.lst acc) ∧ acc.length < sizeLine ∧ Nx (upd H4 D (.lst (acc ++ [y]))) else Nx H3) := by
  refine ⟨fun i m H => m = x.cps.size - i ∧ i ≤ x.cps.size ∧ Pv i H, ⟨_, rfl, Nat.zero_le _, h0⟩, fun i m H hw => ?_⟩
  obtain ⟨e, le, p⟩ := hw
  by_cases lt : i < x.cps.size
  · refine .inr ⟨lt, Pv (i + 1), fun H' q => ⟨x.cps.size - (i + 1), by omega, rfl, lt, q⟩, fun v H' y => ?_⟩
    obtain ⟨rfl, c, hc, rfl⟩ := y
    exact hs i c _ hc p
  · have e2 : i = x.cps.size := by omega
    refine .inl ⟨Nat.le_of_not_lt lt, hd H ?_⟩
    rw [← e2]
    exact p
/-- data with a short text, not deep -/
structure Fine (d : PyData) : Prop where
  sh : d.showable = true
  ln : d.shown.length ≤ 1000
  dp : d.depth ≤ 6
  ok : PyData.strOk d.shown = true
/-- a class of the package: its name, and how it is made -/
structure Own (P : Program) (w : World) (K : PySem.W.Frag) (mg : Str → Option Value) (base : Heap) (x : Str) (C : Addr) (fn : List Str) : Prop where
  glob : mg x = some (.ref C)
  made : ∃ (fI : Addr) (fd : FuncData) (ps : List Str) (B newId initId : String) (bmB : List Value), Xk K C fI B newId initId bmB ∧ FnOk P w K mg base CX0 1 fI fd ps (spXI C fn) ∧ Binds K fd ps [] ∧ ps.length = fn.length + 1
section
variable {X : Cx} {x : Str} {C : Addr} {fn : List Str} {p pos : Pos} {e : Expr} {es : List Expr} {t : TA}
theorem pmk_own1 (T : Own X.prog X.w X.K X.mg X.base x C fn) (hr : Room 2 X.A) (hg : Gl X x) (ha : PA X (e :: es) t) (nd : (x == ("__debug__" : Str)) = false := by decide)
    (se : starEach (e :: es) X.env = (false, eval e X.env) :: starEach es X.env := by rfl) (sn : (backTo pos (starEach es X.env)).any (·.1) = false := by rfl) : PMk X (.Call (.Name x p) (e :: es) [] pos) (tPmk C fn t) := by
  obtain ⟨fI, fd, ps, B, n1, n2, bm, T1, F, b, l⟩ := T.made
  exact pmk_xk T1 F hr b l hg T.glob ha nd se sn
theorem pmk_own0 (T : Own X.prog X.w X.K X.mg X.base x C []) (hr : Room 2 X.A) (hg : Gl X x) (nd : (x == ("__debug__" : Str)) = false := by decide) : PMk X (.Call (.Name x p) [] [] pos) (tPmk C [] tNil) := by
  obtain ⟨fI, fd, ps, B, n1, n2, bm, T1, F, b, l⟩ := T.made
  exact pmk_xk0 T1 F hr b l hg T.glob nd
end
theorem rep_thing {H : Hp} {v : V} {d : PyData} {Q : VK} (hd : Dt true H v d) (n : Fine d) (q : Q (.str d.shown) H) : rRep [v] H Q := by
  have h1 := n.ln
  have h2 := n.dp
  exact ⟨v, d, true, rfl, hd, fun _ => .inl rfl, n.sh, by rw [sizeLine_eq]; omega, by omega, q⟩
theorem ofString_ok (s : String) : PyData.strOk (Str.ofString s) = true := by
  unfold PyData.strOk
  rw [Str.ofString_eq_toList, Array.all_eq_true_iff_forall_mem]
  intro c hc
  simp only [List.mem_toArray, List.mem_map] at hc
  obtain ⟨ch, _, rfl⟩ := hc
  have v : ch.val.toNat < 0xd800 ∨ (0xdfff < ch.val.toNat ∧ ch.val.toNat < 0x110000) := ch.valid
  have e : ch.toNat = ch.val.toNat := rfl
  refine decide_eq_true ?_
  omega
theorem nice_small {i : Int} (h : i.natAbs ≤ 10 ^ 31) : Fine (.int i) := by
  refine ⟨?_, ?_, by simp [PyData.depth], ofString_ok _⟩
  · have lg : i.natAbs.log2 < 1920 := PySem.Flt.log2_lt_of (by decide) (Nat.lt_of_le_of_lt h (by decide +kernel))
    exact decide_eq_true lg
  · have e := PySem.int_text_length_le10 (k := 32) (a := i) (by decide) (Nat.lt_of_le_of_lt h (by decide +kernel))
    show (Str.ofString (toString i)).length ≤ 1000
    rw [PySem.ofString_length]
    omega
theorem okG {P : Program} {w : World} {K : PySem.W.Frag} {mg : Str → Option Value} {base : Heap} {x ql : Str} {st : Stmt} {f : Addr} {fd : FuncData} {N ps : List Str} {n : Nat} {sp : Sp} (F : Fun K x ql st f fd) (S : FnScope N ps (defScope st))
    (many : ∀ vs H Q E, sp vs H Q E → vs.length = ps.length)
    (main : ∀ (cdv : Value) (B : Around) (up : List Env) (s : Shared) (H : Hp) (vs : List V) (Q : VK) (E : XK), Room n (B.deeper (PyProof.Rows.envOfC ql (defScope st) s.heap.objs.size f cdv)) → B.guards = some [] → sp vs H Q E →
      ∃ t, PSs (cxOf CX0 P w K mg base N ql (defScope st) f cdv B up s H E).nox (defBody st) t ∧ t { nx := fun _ G => Q .non G, rt := Q } (start N vs) H) : FnG P w K mg base CX0 (n + 1) f fd ps sp := by
  obtain ⟨oc, od, kV, doc, pm, an, cdv, ct, osl, rfl, lk, hcd⟩ := F.ex
  refine fnG lk hcd S many fun B up s H vs Q E room gd ho => ?_
  obtain ⟨t, der, rd⟩ := main cdv B up s H vs Q E room gd ho
  exact ⟨t, der.nox, rd⟩
theorem fine_dec {d : PyData} (h : (d.showable && decide (d.shown.length ≤ 1000) && decide (d.depth ≤ 6) && PyData.strOk d.shown) = true) : Fine d := by
  simp only [Bool.and_eq_true, decide_eq_true_eq] at h
  exact ⟨h.1.1.1, h.1.1.2, h.1.2, h.2⟩
theorem dt_to {B H H' : Hp} {r : Addr} {v : V} {d : PyData} (h : Dt true (news B H) v d) (b : But r H H') (there : ∃ o, B r = some o) : Dt true H' v d := (h.same (news_but b there)).same news_sub
theorem strs_dp {K : PySem.W.Frag} {H : Hp} : ∀ l : List Str, DpAll K H (l.map V.str) (l.map PyData.str)
  | [] => .nil
  | x :: l => .cons (.str x) (strs_dp l)
theorem strs_lay : ∀ l : List Str, (∀ x ∈ l, PyData.strOk x = true) → PyData.canLayAll0 (l.map PyData.str) = true
  | [], _ => by simp [PyData.canLayAll0]
  | x :: l, h => by simp [PyData.canLayAll0, PyData.canLay0, h x List.mem_cons_self, strs_lay l fun y hy => h y (List.mem_cons_of_mem _ hy)]
theorem strs_depth : ∀ l : List Str, PyData.depthAll (l.map PyData.str) ≤ 1
  | [] => by simp [PyData.depthAll]
  | x :: l => by
    have ih := strs_depth l
    simp only [List.map_cons, PyData.depthAll, PyData.depth]
    omega
theorem strs_shaped {l : List Str} (h : ∀ x ∈ l, PyData.strOk x = true) : SeqAt.shaped (.list (l.map PyData.str)) = true := by
  have d := strs_depth l
  unfold SeqAt.shaped
  have e : (PyData.list (l.map PyData.str)).canLay0 = true := by simp only [PyData.canLay0, strs_lay l h]
  have e2 : (PyData.list (l.map PyData.str)).depth ≤ 64 := by simp only [PyData.depth]; omega
  rw [e, decide_eq_true e2]
  rfl
/-- two lists of the same texts are not unlike -/
theorem ne_strs {K : PySem.W.Frag} {H : Hp} {a p : Addr} {l : List Str} {Q : VK} (ok : ∀ x ∈ l, PyData.strOk x = true) (h1 : H a = some (.lst (l.map V.str))) (h2 : H p = some (.lst (l.map V.str))) (q : Q (.bl false) H) : rNeD K (.ref a) (.ref p) H Q := by
  refine ⟨_, _, .lst (SqL.of h1) (strs_dp l), .lst (SqL.of h2) (strs_dp l), strs_shaped ok, strs_shaped ok, ?_⟩
  rw [PySem.SeqAt.eqv_refl _ (by simp only [PyData.canLay0, strs_lay l ok])]
  exact q
/-- what the end asks of a class, in one look -/
def look (K : PySem.W.Frag) (C f : Addr) (bmB : List Value) (newId : String) (fs : List Str) : Bool :=
  PySem.W.excInitIn K C bmB newId && (PySem.W.excOver K C bmB && (PySem.W.hasDictIn K C && (decide (PySem.W.findIn K (.ref C) "__setattr__" = some (some (.builtin "object.__setattr__"))) &&
  (decide (PySem.W.typeIn K (.ref f) = some (.type "function")) && (PySem.W.keepIn K (.ref C) && (decide (PySem.W.subIn K (.ref C) (.type "BaseException") = some true) && (decide (PySem.W.typeIn K (.ref C) = some (.type "type")) &&
  (decide (PySem.W.findIn K (.ref C) "__getattribute__" = some (some (.builtin "BaseException.__getattribute__"))) && (decide (PySem.W.findIn K (.ref C) "__getattr__" = some none) && (decide (PySem.W.findIn K (.ref C) "__class__" = some (some (.builtin "object.__class__"))) &&
  (decide (PySem.W.mroIn K C (.type "object") = some true) && fs.all fun f => decide (PySem.W.findIn K (.ref C) f = some none))))))))))))
structure Look (K : PySem.W.Frag) (C f : Addr) (bmB : List Value) (newId : String) (fs : List Str) : Prop where
  made : PySem.W.excInitIn K C bmB newId = true
  over : PySem.W.excOver K C bmB = true
  dict : PySem.W.hasDictIn K C = true
  set : PySem.W.findIn K (.ref C) "__setattr__" = some (some (.builtin "object.__setattr__"))
  fn : PySem.W.typeIn K (.ref f) = some (.type "function")
  keep : PySem.W.keepIn K (.ref C) = true
  exc : PySem.W.subIn K (.ref C) (.type "BaseException") = some true
  ty : PySem.W.typeIn K (.ref C) = some (.type "type")
  get : PySem.W.findIn K (.ref C) "__getattribute__" = some (some (.builtin "BaseException.__getattribute__"))
  get2 : PySem.W.findIn K (.ref C) "__getattr__" = some none
  cls : PySem.W.findIn K (.ref C) "__class__" = some (some (.builtin "object.__class__"))
  obj : PySem.W.mroIn K C (.type "object") = some true
  no : ∀ f ∈ fs, PySem.W.findIn K (.ref C) f = some none
theorem look_ok {K : PySem.W.Frag} {C f : Addr} {bmB : List Value} {newId : String} {fs : List Str} (h : look K C f bmB newId fs = true) : Look K C f bmB newId fs := by
  unfold look at h
  simp only [Bool.and_eq_true, decide_eq_true_eq, List.all_eq_true] at h
  obtain ⟨h1, h2, h3, h4, h5, h6, h7, h8, h9, h10, h11, h12, h13⟩ := h
  exact ⟨h1, h2, h3, h4, h5, h6, h7, h8, h9, h10, h11, h12, h13⟩
theorem Look.xk {K : PySem.W.Frag} {C f : Addr} {B newId initId : String} {bmB : List Value} {fs : List Str} (L : Look K C f bmB newId fs) (i : PySem.W.findIn K (.ref C) "__init__" = some (some (.ref f))) (fb : ExcBaseFacts B newId initId bmB)
    (sf : StoreFacts B bmB "object.__setattr__" "object") : Xk K C f B newId initId bmB := ⟨fb, sf, L.made, L.over, L.dict, L.set, i, L.fn, L.keep, L.exc, L.ty⟩
theorem Look.xc {K : PySem.W.Frag} {C f : Addr} {newId : String} {bmB : List Value} {fs : List Str} (L : Look K C f bmB newId fs) (d1 : PySem.W.specialIn K (.builtin "object.__class__") "__get__" = some (some (.builtin "getset_descriptor.__get__")))
    (d2 : PySem.W.takesIn K (.builtin "object.__class__") = some true) : PySem.W.XcC K C := ⟨L.get, L.get2, L.exc, L.dict, L.cls, d1, d2, L.obj⟩
theorem ws_0 {ws : List V} (h : ws.length = ([] : List Str).length) : ws = [] := List.eq_nil_of_length_eq_zero h
theorem ws_1 {x : Str} {ws : List V} (h : ws.length = [x].length) : ∃ v, ws = [v] := match ws, h with | [v], _ => ⟨v, rfl⟩
end PSG

set_option Elab.async false
set_option linter.all false
set_option maxRecDepth 100000
set_option maxHeartbeats 8000000
namespace PSG
open PySem PySem.Spec L2
open PyProof.Rows (IntsAre AllBare)
/-- list(sequence): new, and not sys.modules -/
def rListF (K : PySem.W.Frag) : List V → Hp → VK → Prop := fun xs H Q => ∃ p ys, xs = [.ref p] ∧ (SqL K H p ys ∨ SqT K H p ys) ∧ ∀ l, H l = none → l ≠ sysModules → Q (.ref l) (upd H l (.lst ys))
theorem call_list_ofF {X : Cx} : CallR X (.type "list") (rListF X.K) := by
  intro pins s σ H xs us Q I r ho
  obtain ⟨p, ys, rfl, where_, q⟩ := ho
  obtain ⟨u, rfl, rx⟩ := vals1 r
  cases rx
  have far : s.heap.objs.size ≠ sysModules := Nat.ne_of_gt I.big
  have done : ∀ (its : List Value) (g : Heap) (n : Nat), Vals ys its → ys.length ≤ sizeLine → (∀ b o, s.heap.get? b = some o → g.get? b = some o) → g.get? s.heap.objs.size = some { cls := .type "list", dict := none, data := .seq its.toArray n, slots := #[] } →
      EP X pins σ Q (.ref s.heap.objs.size) { s with heap := g } := fun its g n rv sz k e =>
    ⟨.ref s.heap.objs.size, _, I.laid (t' := s.toks) k (Nat.le_refl _) (show ObjOk X.prog X.w _ g _ (.lst ys) from ⟨sz, its, n, rv, e⟩), rfl, q _ (I.hok.fresh (Nat.le_refl _)) far⟩
  rcases where_ with w | w
  · obtain ⟨its, rv, pl, sz⟩ := I.list w
    have len := rv.length
    obtain ⟨o, ho, hc, n, hd⟩ := pl.isList
    refine call_list_seq p (.inl rfl) ho hc hd (fun g n k e => done its g n rv sz k e) ?_
    simp only [List.size_toArray] <;> omega
  · obtain ⟨its, rv, pl, sz⟩ := I.tuple w
    have len := rv.length
    obtain ⟨o, ho, hc, n, hd⟩ := pl
    refine call_list_seq p (.inr rfl) ho hc hd (fun g n k e => done its g n rv sz k e) ?_
    simp only [List.size_toArray] <;> omega
/-! ### texts of tuples of small things -/
theorem ok_app {x y : Str} (h1 : PyData.strOk x = true) (h2 : PyData.strOk y = true) : PyData.strOk (x ++ y) = true := by
  unfold PyData.strOk at *
  show (x.cps ++ y.cps).all _ = true
  rw [Array.all_append, h1, h2]
  rfl
theorem ok_join {sep : Str} (hs : PyData.strOk sep = true) : ∀ ts : List Str, (∀ t ∈ ts, PyData.strOk t = true) → PyData.strOk (Str.join sep ts) = true
  | [], _ => by
    show PyData.strOk (⟨#[]⟩ : Str) = true
    decide +kernel
  | [x], h => h x List.mem_cons_self
  | x :: y :: r, h => ok_app (ok_app (h x List.mem_cons_self) hs) (ok_join hs (y :: r) fun t ht => h t (List.mem_cons_of_mem _ ht))
theorem ok_tuple {ts : List Str} (h : ∀ t ∈ ts, PyData.strOk t = true) : PyData.strOk (tupleText ts) = true := by
  unfold tupleText
  refine ok_app (ok_app (by decide +kernel) (ok_join (by decide +kernel) ts h)) ?_
  split <;> decide +kernel
/-- a thing that may stand within a tuple -/
structure El (d : PyData) : Prop where
  sh : d.showable = true
  ln : d.shown.length ≤ 40
  dp : d.depth ≤ 4
  ok : PyData.strOk d.shown = true
theorem el_dec {d : PyData} (h : (d.showable && decide (d.shown.length ≤ 40) && decide (d.depth ≤ 4) && PyData.strOk d.shown) = true) : El d := by
  simp only [Bool.and_eq_true, decide_eq_true_eq] at h
  exact ⟨h.1.1.1, h.1.1.2, h.1.2, h.2⟩
theorem els_all : ∀ {ds : List PyData}, (∀ d ∈ ds, El d) → PyData.showableAll ds = true ∧ ((PyData.shownAll ds).map (·.length)).sum ≤ 40 * ds.length ∧ PyData.depthAll ds ≤ 4 ∧ (PyData.shownAll ds).length = ds.length ∧ ∀ t ∈ PyData.shownAll ds, PyData.strOk t = true
  | [], _ => by simp [PyData.showableAll, PyData.shownAll, PyData.depthAll]
  | d :: ds, h => by
    obtain ⟨h1, h2, h3, h4, h5⟩ := els_all (ds := ds) fun x hx => h x (List.mem_cons_of_mem _ hx)
    have n := h d List.mem_cons_self
    have n2 := n.ln
    have n3 := n.dp
    refine ⟨by simp only [PyData.showableAll, n.sh, h1, Bool.and_self], ?_, ?_, ?_, ?_⟩
    · simp only [PyData.shownAll, List.map_cons, List.sum_cons, List.length_cons]
      omega
    · simp only [PyData.depthAll]
      omega
    · simp only [PyData.shownAll, List.length_cons, h4]
    · intro t ht
      simp only [PyData.shownAll, List.mem_cons] at ht
      rcases ht with rfl | ht
      · exact n.ok
      · exact h5 t ht
theorem fine_tuple {ds : List PyData} (few : ds.length ≤ 21) (h : ∀ d ∈ ds, El d) : Fine (.tuple ds) := by
  obtain ⟨h1, h2, h3, h4, h5⟩ := els_all h
  refine ⟨by simpa only [PyData.showable] using h1, ?_, ?_, ok_tuple h5⟩
  · have l := tupleText_len_le (PyData.shownAll ds)
    show (tupleText (PyData.shownAll ds)).length ≤ 1000
    omega
  · simp only [PyData.depth]
    omega
end PSG

set_option Elab.async false
set_option linter.all false
set_option maxRecDepth 100000
set_option maxHeartbeats 4000000
/-! tuple(text) -/
namespace PSZ
open PySem PySem.Spec
section
variable {prog : Program} {w : World} {A : Around} {E : Value → Shared → Prop} {s : Shared} {x : Str} {t : Tok}
/-- what is laid: the signs of the text, one by one -/
def Laid (s : Shared) (x : Str) (q : Value → Shared → Prop) : Prop :=
  ∀ (s' : Shared) (acc : Array Value), (∀ b o, s.heap.get? b = some o → s'.heap.get? b = some o) → s'.gens = s.gens → s'.drawn = s.drawn → s'.os = s.os → ItemsOf (SignAt x) acc x.cps.size →
    q (.ref s'.heap.objs.size) { s' with heap := s'.heap.push { cls := .type "tuple", data := .seq acc } }
theorem text_new {q : Value → Shared → Prop} (hd : A.handled = none) (few : x.cps.size ≤ sizeLine) (h : Laid s x q) : codeAny (model prog w) A (.call (.builtin "tuple.__new__") ⟨[.type "tuple", .str x t], []⟩) (wants q E) s := by
  refine codeAny_of_tree ?_
  show wpAny _ A.in1 (do checkBuiltinCall "tuple.__new__" ⟨[.type "tuple", .str x t], []⟩; again (.builtin "tuple.__new__" ⟨[.type "tuple", .str x t], []⟩)) _ _ s
  refine wpAny_bind (wpAny_of_eq (F.newCall_tuple_1 _) (wpAny_pure ⟨plainId_quiet F.plain_tuple_new _, codeAny_builtin F.entry_tuple_new ?_⟩))
  rw [Around.under_plainId F.plain_tuple_new _]
  have k1 := sub_tuple_self
  have k2 := init_tuple_lookup
  have k3 := madeHere_tuple
  have ty : s.TypeIs (.str x t) "str" := typeIs_str _ _ _
  have hd1 : A.in1.handled = none := hd
  wp_walk using wpAny_typeOf ty, wpAny_collect_str (A := A.in1) hd1 x t
  first
    | (intro s' acc k e1 e2 e3 its
       show wpAny _ _ (Builtin.Tuple.tupleExact acc.toList.toArray >>= fun v => ret v) _ _ _
       unfold Builtin.Tuple.tupleExact
       refine wpAny_bind (wpAny_newObj_type ?_ (by show acc.toList.toArray.size ≤ sizeLine; simp only [Array.toArray_toList]; rw [its.1]; exact few))
       refine wpAny_pure ?_
       have e : acc.toList.toArray = acc := by simp
       rw [e]
       exact h s' acc k e1 e2 e3 its)
    | skip
theorem call_text {Q : Value → Shared → Prop} (hd : A.handled = none) (few : x.cps.size ≤ sizeLine) (h : Laid s x Q) : wpAny (model prog w) A (call (.type "tuple") [.str x t]) Q E s := by
  refine callType_codes (Q₁ := fun obj s₁ => s₁.TypeIs obj "tuple" ∧ Q obj s₁) F.called_tuple (F.typeCall_tuple_1 _) F.entry_object_init
    (text_new (A := A.in1) hd few fun s' acc k e1 e2 e3 its => ⟨⟨_, Heap.get?_push_size _ rfl, rfl⟩, h s' acc k e1 e2 e3 its⟩) fun obj s₁ h₁ => ?_
  exact ⟨h₁.1, F.args_object_init_2 obj _, object_init_meets F.called_tuple.init.lookup F.called_tuple.made (by decide) prog w A.in1 _ s₁ ⟨h₁.1, rfl, h₁.2⟩⟩
end
end PSZ
namespace PSG
open PySem PySem.Spec L2
open PyProof.Rows (IntsAre AllBare)
theorem signs_vals : ∀ (cs : List Nat) (us : List Value), us.length = cs.length → (∀ (j : Nat) (v : Value), us[j]? = some v → ∃ (c : Nat) (u : Tok), cs[j]? = some c ∧ v = Value.str ⟨#[c]⟩ u) → Vals (cs.map fun c => V.str ⟨#[c]⟩) us
  | [], [], _, _ => .nil
  | [], _ :: _, h, _ => by cases h
  | _ :: _, [], h, _ => by cases h
  | c :: cs, u :: us, h, k => by
    obtain ⟨d, t, e1, e2⟩ := k 0 u rfl
    have e3 : c = d := by simpa using e1
    subst e3 e2
    exact .cons ⟨t, rfl⟩ (signs_vals cs us (by simpa using h) fun j v e => k (j + 1) v (by simpa using e))
def rTupS : List V → Hp → VK → Prop := fun xs H Q => ∃ x : Str, xs = [.str x] ∧ x.length ≤ 1000 ∧ ∀ l, H l = none → Q (.ref l) (upd H l (.tup (x.cps.toList.map fun c => V.str ⟨#[c]⟩)))
theorem call_tupleS {X : Cx} (calm : X.calm = true) : CallR X (.type "tuple") rTupS := by
  intro pins s σ H xs us Q I r h
  obtain ⟨x, rfl, few, q⟩ := h
  obtain ⟨u, rfl, t, rfl⟩ := vals1 r
  have few2 : x.cps.size ≤ sizeLine := by
    have e : x.cps.size = x.length := rfl
    rw [sizeLine_eq]
    omega
  refine PSZ.call_text (I.ok.hd calm) few2 fun s' acc k e1 e2 e3 its => ?_
  obtain ⟨h', g', d', t', o'⟩ := s'
  dsimp only at e1 e2 e3 k
  subst e1 e2 e3
  have I1 : Inv X pins σ H { s with heap := h', toks := t' } := I.kept (t' := t') k
  have va : Vals (x.cps.toList.map fun c => V.str ⟨#[c]⟩) acc.toList := signs_vals _ _ (by rw [Array.length_toList, Array.length_toList]; exact its.1) fun j v e => by
    obtain ⟨c, u, e4, e5⟩ := its.2 j v (by rw [← Array.getElem?_toList]; exact e)
    exact ⟨c, u, by rw [Array.getElem?_toList]; exact e4, e5⟩
  have I2 := I1.laid (t' := t') (a := h'.objs.size) (h' := h'.push { cls := .type "tuple", data := .seq acc }) (o := .tup (x.cps.toList.map fun c => V.str ⟨#[c]⟩)) (fun b o e => Heap.get?_push_of_some _ e) (Nat.le_refl _)
    ⟨by rw [List.length_map, Array.length_toList]; exact few2, acc.toList, va, ⟨_, Heap.get?_push_size _ rfl, rfl, 0, by simp⟩⟩
  exact ⟨.ref h'.objs.size, _, I2, rfl, q _ (I1.hok.fresh (Nat.le_refl _))⟩
end PSG

set_option Elab.async false
set_option linter.all false
set_option maxRecDepth 100000
set_option maxHeartbeats 8000000
namespace K13
open PySem PySem.Spec L2 PSG
open PyProof.Rows (IntsAre AllBare)
def topS (i : Nat) : Stmt := PySem.Challenge.pw_pairsigns_k13_vectors_and_texts.main.body.getD i (.Pass ⟨0, 0, 0, 0⟩)
abbrev s__law_rng : Stmt := topS 20
theorem sc__law_rng : FnScope ["_law_script", "_law_k", "_law_cell"] ["_law_script", "_law_k"] (defScope s__law_rng) := ⟨rfl, rfl, rfl, by decide +kernel, rfl, by decide +kernel, by decide +kernel⟩
abbrev s__law_draw : Stmt := topS 21
theorem sc__law_draw : FnScope ["_law_rng_here", "_law_many", "_law_digit", "_law_mixed"] ["_law_rng_here", "_law_many"] (defScope s__law_draw) := ⟨rfl, rfl, rfl, by decide +kernel, rfl, by decide +kernel, by decide +kernel⟩
abbrev s__law_choice : Stmt := topS 22
theorem sc__law_choice : FnScope ["_law_rng_here", "_law_options"] ["_law_rng_here", "_law_options"] (defScope s__law_choice) := ⟨rfl, rfl, rfl, by decide +kernel, rfl, by decide +kernel, by decide +kernel⟩

/-- the built-ins that the module leaves as they are -/
structure Blt (mg : Str → Option Value) : Prop where
  n_len : mg "len" = none
  n_max : mg "max" = none
  n_min : mg "min" = none
  n_abs : mg "abs" = none
  n_int : mg "int" = none
  n_divmod : mg "divmod" = none
  n_range : mg "range" = none
  n_isinstance : mg "isinstance" = none
  n_repr : mg "repr" = none
  n_all : mg "all" = none
  n_bool : mg "bool" = none
  n_str : mg "str" = none
  n_tuple : mg "tuple" = none
  n_list : mg "list" = none
  n_ValueError : mg "ValueError" = none
  n_LookupError : mg "LookupError" = none
  n_RuntimeError : mg "RuntimeError" = none
  n_ArithmeticError : mg "ArithmeticError" = none
section
variable {P : Program} {w : World} {K : PySem.W.Frag} {mg : Str → Option Value} {base : Heap}
def spRng (K : PySem.W.Frag) : Sp := fun vs H Q _ => ∃ (a : Addr) (ns : List Int) (k : Nat), vs = [.ref a, .int k] ∧ SqL K H a (ns.map V.int) ∧ k ≤ 1000 ∧ ∀ p x y, H p = none → (0 : Int) ≤ x → 0 ≤ y → y < 2147483587 → Q (.ref p) (upd H p (.lst [.int x, .int y]))
theorem ok_rng {f : Addr} {fd : FuncData} (F : Fun K "_law_rng" "_law_rng" s__law_rng f fd) (T : Blt mg) : FnOk P w K mg base CX0 1 f fd ["_law_script", "_law_k"] (spRng K) := by
  have sc := sc__law_rng
  refine F.ok sc (fun vs H Q E h => ?_) (fun cdv A outer s H vs Q E hr h => ?_)
  · obtain ⟨a, ns, k, rfl, _⟩ := h
    rfl
  · obtain ⟨a, ns, k, rfl, hS, hk, q⟩ := h
    refine ⟨_, (pss_cons (ps_set (i := 2) sc.nd rfl (.inl rfl) (pe_op op_add (pe_op op_mul pe_int (pv 1)) pe_int))
      (pss_cons (ps_if (pt_cmpR op_lt (pv 1) (pe_callB call_len_seq (by rfl) T.n_len PySem.boot_len (pa_cons (pv 0) pa_nil)) (nomark _)) (pss_one (ps_set (i := 2) sc.nd rfl (.inl rfl) (pe_ix ix_list (pv 0) (pv 1) (fun _ _ => rfl)))) pss_nil)
      (pss_one (ps_ret (pe_lst (pa_cons (pe_callB (call_max2 rfl) (by rfl) T.n_max (by decide +kernel) (pa_cons pe_int (pa_cons (pe_op op_sub (pe_callB call_abs (by rfl) T.n_abs (by decide +kernel) (pa_cons (pv 2) pa_nil)) (pe_op op_pow pe_int pe_int)) pa_nil))) (pa_cons (pe_op op_add (pe_op op_mod (pe_callTy call_int1 (by rfl) T.n_int (by decide +kernel) (pa_cons (pe_op op_mul (pe_op op_add (pe_op op_mod (pe_callTy call_int1 (by rfl) T.n_int (by decide +kernel) (pa_cons (pe_callB call_abs (by rfl) T.n_abs (by decide +kernel) (pa_cons (pv 2) pa_nil)) pa_nil)) pe_int) pe_int) (pe_op op_pow (pe_op op_add (pv 1) pe_int) pe_int)) pa_nil)) pe_int) pe_int) pa_nil))))))), ?_⟩
    refine ⟨_, rfl, _, _, rfl, rfl, .inl ⟨by decide, by decide⟩, _, _, rfl, rfl, ?_⟩
    refine ⟨_, rfl, _, rfl, a, _, rfl, .inl hS, _, _, rfl, rfl, _, rfl, ite2 (fun e => ?_) (fun e => ?_)⟩
    · have lt : k < (ns.map V.int).length := by
        have e1 := of_decide_eq_true e
        omega
      rw [List.length_map] at lt
      have at_ : (ns.map V.int)[k]? = some (.int ns[k]) := by
        rw [List.getElem?_map, List.getElem?_eq_getElem lt]
        rfl
      refine ⟨_, rfl, _, rfl, a, _, _, _, rfl, rfl, hS, atI_nat at_, ?_⟩
      refine ⟨_, rfl, _, rfl, _, _, rfl, rfl, ⟨by decide, by decide, by decide⟩, _, _, rfl, rfl, _, _, rfl, _, rfl, _, rfl, .inl ⟨_, rfl, _, _, rfl, rfl, (by show (0 : Int) < _; decide), _, _, rfl, rfl, _, rfl, _, _, rfl, rfl, _, _, rfl, rfl,
        ⟨by decide, by decide, by omega⟩, _, _, rfl, rfl, .inl ⟨by omega, by omega⟩, .inl ⟨_, rfl, _, _, rfl, rfl, (by show (0 : Int) < _; decide), _, _, rfl, rfl, (by show 2 ≤ sizeLine; decide), fun p hp => ?_⟩⟩⟩
      exact q p _ _ hp (by split <;> omega) (by omega) (by omega)
    · refine ⟨_, rfl, _, rfl, _, _, rfl, rfl, ⟨by decide, by decide, by decide⟩, _, _, rfl, rfl, _, _, rfl, _, rfl, _, rfl, .inl ⟨_, rfl, _, _, rfl, rfl, (by show (0 : Int) < _; decide), _, _, rfl, rfl, _, rfl, _, _, rfl, rfl, _, _, rfl, rfl,
        ⟨by decide, by decide, by omega⟩, _, _, rfl, rfl, .inl ⟨by omega, by omega⟩, .inl ⟨_, rfl, _, _, rfl, rfl, (by show (0 : Int) < _; decide), _, _, rfl, rfl, (by show 2 ≤ sizeLine; decide), fun p hp => ?_⟩⟩⟩
      exact q p _ _ hp (by split <;> omega) (by omega) (by omega)
theorem pylong_no {i j : Int} (h0 : 0 < j) (h : j < 2 ^ 200) : CDivP i j := by
  refine ⟨h0, ?_⟩
  have lg : j.natAbs.log2 < 200 := PySem.Flt.log2_lt_of (by decide) (by omega)
  unfold Builtin.divisionGoesByPylong
  have small : ¬ (300 < if (j == 0) = true then 0 else j.natAbs.log2 / 30 + 1) := by split <;> omega
  exact Bool.and_eq_false_iff.mpr (.inl (decide_eq_false small))
def nx (y : Int) : Int := (y * 48283 + 10007) % 2147483587
theorem nx_lo (y : Int) : 0 ≤ nx y := Int.emod_nonneg _ (by decide)
theorem nx_hi (y : Int) : nx y < 2147483587 := Int.emod_lt_of_pos _ (by decide)
/-- a draw below m -/
def spDraw : Sp := fun vs H Q _ => ∃ (r : Addr) (m : Int), vs = [.ref r, .int m] ∧ Rg H r ∧ 0 < m ∧ m < 2 ^ 200 ∧ ∀ d H', (0 : Int) ≤ d → d < m → Rg H' r → But r H H' → Q (.int d) H'
theorem ok_draw {f : Addr} {fd : FuncData} (F : Fun K "_law_draw" "_law_draw" s__law_draw f fd) (T : Blt mg) : FnOk P w K mg base CX0 1 f fd ["_law_rng_here", "_law_many"] spDraw := by
  have sc := sc__law_draw
  refine F.ok sc (fun vs H Q E h => ?_) (fun cdv A outer s H vs Q E hr h => ?_)
  · obtain ⟨r, m, rfl, _⟩ := h
    rfl
  · obtain ⟨r, m, rfl, ⟨x, y, hR, hx, hy, hy2⟩, hm, hm2, q⟩ := h
    have hS : SqL K H r [.int x, .int y] := SqL.of hR
    refine ⟨_, (pss_cons (ps_if (pt_cmpR op_gt (pe_ix ix_list (pv 0) pe_int (fun _ _ => rfl)) pe_int (nomark _)) (pss_cons (ps_asg (pe_callB call_divmodW (by rfl) T.n_divmod (by decide +kernel) (pa_cons (pe_ix ix_list (pv 0) pe_int (fun _ _ => rfl)) (pa_cons (pv 1) pa_nil))) (pg_tup (by rfl) (pgs_cons (pg_sub (pv 0) pe_int set_list) (pgs_cons (pg_name (i := 2) sc.nd rfl (.inl rfl)) pgs_nil))))
      (pss_one (ps_ret (pv 2)))) pss_nil)
      (pss_cons (ps_asg (pe_op op_mod (pe_callTy call_int1 (by rfl) T.n_int (by decide +kernel) (pa_cons (pe_op op_add (pe_op op_mul (pe_ix ix_list (pv 0) pe_int (fun _ _ => rfl)) pe_int) pe_int) pa_nil)) pe_int) (pg_sub (pv 0) pe_int set_list))
      (pss_cons (ps_set (i := 3) sc.nd rfl (.inl rfl) (pe_op op_fdiv (pe_op op_mod (pe_callTy call_int1 (by rfl) T.n_int (by decide +kernel) (pa_cons (pe_op op_mul (pe_ix ix_list (pv 0) pe_int (fun _ _ => rfl)) (pe_ix ix_list (pv 0) pe_int (fun _ _ => rfl))) pa_nil)) pe_int) pe_int))
      (pss_cons (ps_if (pt_cmpR op_lt (pv 1) (pe_op op_pow pe_int pe_int) (nomark _)) (pss_one (ps_ret (pe_op op_mod (pe_callTy call_int1 (by rfl) T.n_int (by decide +kernel) (pa_cons (pv 3) pa_nil)) (pv 1)))) pss_nil)
      (pss_one (ps_ret (pe_op op_mod (pe_callTy call_int1 (by rfl) T.n_int (by decide +kernel) (pa_cons (pe_op op_add (pe_op op_mul (pe_op op_add (pe_op op_mul (pv 3) pe_int) (pe_ix ix_list (pv 0) pe_int (fun _ _ => rfl))) pe_int) (pv 3)) pa_nil)) (pv 1)))))))), ?_⟩
    refine ⟨_, rfl, _, _, _, _, rfl, rfl, hS, atI_nat (j := 0) rfl, _, _, rfl, rfl, _, rfl, ite2 (fun e => ?_) (fun e => ?_)⟩
    · refine ⟨_, rfl, _, _, _, _, rfl, rfl, hS, atI_nat (j := 0) rfl, _, rfl, _, _, rfl, pylong_no hm hm2, fun p hp => ?_⟩
      have npr : r ≠ p := ne_of_none hR hp
      refine ⟨p, _, rfl, .inl (.inl upd_same), rfl, _, _, rfl, _, rfl, r, _, _, 0, rfl, rfl, (upd_ne npr).trans hR, rfl, _, _, rfl, rfl, ?_⟩
      refine ⟨_, rfl, q _ _ (Int.emod_nonneg _ (by omega)) (Int.emod_lt_of_pos _ hm) ⟨_, _, upd_same, Int.ediv_nonneg hx (by omega), hy, hy2⟩ ((But.of (same_new hp)).trans But.at)⟩
    · refine ⟨_, rfl, _, _, _, _, rfl, rfl, hS, atI_nat (j := 1) rfl, _, _, rfl, rfl, .inr ⟨by decide, by decide⟩, _, _, rfl, rfl, .inl ⟨_, rfl, _, _, rfl, rfl, (by show (0 : Int) < _; decide), _, rfl, r, _, _, 1, rfl, rfl, hR, rfl, ?_⟩⟩
      have hR1 : (upd H r (.lst [.int x, .int (nx y)])) r = some (.lst [.int x, .int (nx y)]) := upd_same
      have hS1 : SqL K (upd H r (.lst [.int x, .int (nx y)])) r [.int x, .int (nx y)] := SqL.of hR1
      have hz0 := nx_lo y
      have hz1 := nx_hi y
      refine ⟨_, rfl, _, _, _, _, rfl, rfl, hS1, atI_nat (j := 1) rfl, _, rfl, _, _, _, _, rfl, rfl, hS1, atI_nat (j := 1) rfl, _, _, rfl, rfl, .inl ⟨by omega, by omega⟩, .inl ⟨_, rfl, _, _, rfl, rfl, (by show (0 : Int) < _; decide), _, _, rfl, rfl, ⟨by decide, by decide⟩, ?_⟩⟩
      refine ⟨_, rfl, _, _, rfl, rfl, ⟨by decide, by decide, by decide⟩, _, _, rfl, rfl, _, rfl, ite2 (fun e => ?_) (fun e => ?_)⟩
      · refine ⟨_, rfl, .inl ⟨_, rfl, _, rfl, _, _, rfl, rfl, hm, ?_⟩⟩
        exact q _ _ (Int.emod_nonneg _ (by omega)) (Int.emod_lt_of_pos _ hm) ⟨_, _, hR1, hx, hz0, hz1⟩ But.at
      · refine ⟨_, rfl, _, _, rfl, rfl, .inr ⟨by decide, by decide⟩, _, rfl, _, _, _, _, rfl, rfl, hS1, atI_nat (j := 1) rfl, _, _, rfl, rfl, _, _, rfl, rfl, .inr ⟨by decide, by decide⟩, _, rfl, _, _, rfl, rfl, .inl ⟨_, rfl, _, rfl, _, _, rfl, rfl, hm, ?_⟩⟩
        exact q _ _ (Int.emod_nonneg _ (by omega)) (Int.emod_lt_of_pos _ hm) ⟨_, _, hR1, hx, hz0, hz1⟩ But.at
/-- one of a list's items -/
def spChoice (K : PySem.W.Frag) : Sp := fun vs H Q _ => ∃ (r o : Addr) (xs : List V), vs = [.ref r, .ref o] ∧ Rg H r ∧ H o = some (.lst xs) ∧ o ≠ r ∧ xs ≠ [] ∧ xs.length ≤ 1000 ∧ ∀ v H', v ∈ xs → Rg H' r → But r H H' → Q v H'
theorem ok_choice {f fD : Addr} {fd fdD : FuncData} (F : Fun K "_law_choice" "_law_choice" s__law_choice f fd) (T : Blt mg) (F__law_draw : Fun K "_law_draw" "_law_draw" s__law_draw fD fdD) (b__law_draw : Binds K fdD ["_law_rng_here", "_law_many"] [])
    (g__law_draw : mg "_law_draw" = some (.ref fD)) : FnOk P w K mg base CX0 2 f fd ["_law_rng_here", "_law_options"] (spChoice K) := by
  have sc := sc__law_choice
  have G__law_draw : FnOk P w K mg base CX0 1 fD fdD ["_law_rng_here", "_law_many"] spDraw := ok_draw F__law_draw T
  refine F.ok sc (fun vs H Q E h => ?_) (fun cdv A outer s H vs Q E hr h => ?_)
  · obtain ⟨r, o, xs, rfl, _⟩ := h
    rfl
  · obtain ⟨r, o, xs, rfl, hR, hO, hne, hx, hl, q⟩ := h
    have pos : 0 < xs.length := List.length_pos_iff.mpr hx
    refine ⟨_, (pss_one (ps_ret (pe_ix ix_list (pv 1) (pe_call G__law_draw hr (by rfl) g__law_draw F__law_draw.kp b__law_draw .nil pass0 (pa_cons (pv 0) (pa_cons (pe_callB call_len_seq (by rfl) T.n_len PySem.boot_len (pa_cons (pv 1) pa_nil)) pa_nil))) (fun _ _ => rfl)))), ?_⟩
    refine ⟨_, rfl, _, rfl, _, rfl, _, _, rfl, .inl (SqL.of hO), r, _, rfl, hR, by omega, by omega, fun d H' h0 h1 g' b' => ?_⟩
    have hO' := b' _ _ hne hO
    have lt : d.toNat < xs.length := by omega
    have e : atI xs ((d.toNat : Nat) : Int) = some xs[d.toNat] := atI_nat (List.getElem?_eq_getElem lt)
    rw [Int.toNat_of_nonneg h0] at e
    exact ⟨_, _, d, xs[d.toNat], rfl, rfl, SqL.of hO', e, q _ _ (List.getElem_mem lt) g' b'⟩
def spChoiceS : Sp := fun vs H Q _ => ∃ (r : Addr) (x : Str), vs = [.ref r, .str x] ∧ Rg H r ∧ 0 < x.length ∧ x.length ≤ 1000 ∧ ∀ c H', c ∈ x.cps.toList → Rg H' r → But r H H' → Q (.str ⟨#[c]⟩) H'
theorem ok_choiceS {f fD : Addr} {fd fdD : FuncData} (F : Fun K "_law_choice" "_law_choice" s__law_choice f fd) (T : Blt mg) (F__law_draw : Fun K "_law_draw" "_law_draw" s__law_draw fD fdD) (b__law_draw : Binds K fdD ["_law_rng_here", "_law_many"] [])
    (g__law_draw : mg "_law_draw" = some (.ref fD)) : FnOk P w K mg base CX0 2 f fd ["_law_rng_here", "_law_options"] spChoiceS := by
  have sc := sc__law_choice
  have G__law_draw : FnOk P w K mg base CX0 1 fD fdD ["_law_rng_here", "_law_many"] spDraw := ok_draw F__law_draw T
  refine F.ok sc (fun vs H Q E h => ?_) (fun cdv A outer s H vs Q E hr h => ?_)
  · obtain ⟨r, x, rfl, _⟩ := h
    rfl
  · obtain ⟨r, x, rfl, hR, h0, hl, q⟩ := h
    refine ⟨_, (pss_one (ps_ret (pe_ix ix_str (pv 1) (pe_call G__law_draw hr (by rfl) g__law_draw F__law_draw.kp b__law_draw .nil pass0 (pa_cons (pv 0) (pa_cons (pe_callB call_len_str (by rfl) T.n_len PySem.boot_len (pa_cons (pv 1) pa_nil)) pa_nil))) (fun _ _ => rfl)))), ?_⟩
    refine ⟨_, rfl, _, rfl, _, rfl, x, rfl, (by rw [sizeLine_eq]; omega), r, _, rfl, hR, by omega, by omega, fun d H' h0 h1 g' b' => ?_⟩
    have e0 : x.cps.toList.length = x.length := by simp [Str.length]
    have lt : d.toNat < x.cps.toList.length := by omega
    have e : atI x.cps.toList ((d.toNat : Nat) : Int) = some x.cps.toList[d.toNat] := atI_nat (List.getElem?_eq_getElem lt)
    rw [Int.toNat_of_nonneg h0] at e
    exact ⟨x, d, _, rfl, rfl, by rw [sizeLine_eq]; omega, e, q _ _ (List.getElem_mem lt) g' b'⟩
end
end K13

set_option Elab.async false
set_option linter.all false
set_option maxRecDepth 100000
set_option maxHeartbeats 8000000
namespace K13
open PySem PySem.Spec L2 PSG
open PyProof.Rows (IntsAre AllBare)
abbrev s_is_integer : Stmt := topS 1
theorem sc_is_integer : FnScope ["value"] ["value"] (defScope s_is_integer) := ⟨rfl, rfl, rfl, by decide +kernel, rfl, by decide +kernel, by decide +kernel⟩
abbrev s_is_sign : Stmt := topS 2
theorem sc_is_sign : FnScope ["value"] ["value"] (defScope s_is_sign) := ⟨rfl, rfl, rfl, by decide +kernel, rfl, by decide +kernel, by decide +kernel⟩
abbrev s_is_vector : Stmt := topS 13
theorem sc_is_vector : FnScope ["value", "sign"] ["value"] (defScope s_is_vector) := ⟨rfl, rfl, rfl, by decide +kernel, rfl, by decide +kernel, by decide +kernel⟩
abbrev s_turned : Stmt := topS 14
theorem sc_turned : FnScope ["vector", "sign"] ["vector"] (defScope s_turned) := ⟨rfl, rfl, rfl, by decide +kernel, rfl, by decide +kernel, by decide +kernel⟩
abbrev s_sign_text : Stmt := topS 15
theorem sc_sign_text : FnScope ["sign"] ["sign"] (defScope s_sign_text) := ⟨rfl, rfl, rfl, by decide +kernel, rfl, by decide +kernel, by decide +kernel⟩
abbrev s_vector_text : Stmt := topS 16
theorem sc_vector_text : FnScope ["vector", "sign"] ["vector"] (defScope s_vector_text) := ⟨rfl, rfl, rfl, by decide +kernel, rfl, by decide +kernel, by decide +kernel⟩
abbrev s_read_sign : Stmt := topS 17
theorem sc_read_sign : FnScope ["text"] ["text"] (defScope s_read_sign) := ⟨rfl, rfl, rfl, by decide +kernel, rfl, by decide +kernel, by decide +kernel⟩
abbrev s_read_vector : Stmt := topS 18
theorem sc_read_vector : FnScope ["text", "vector", "letter"] ["text"] (defScope s_read_vector) := ⟨rfl, rfl, rfl, by decide +kernel, rfl, by decide +kernel, by decide +kernel⟩

def three : Str := "-0+"
structure Cst (mg : Str → Option Value) : Prop where
  c_SIGN_TEXTS : ∃ t, mg "SIGN_TEXTS" = some (.str three t)
def isSg : PyData → Bool
  | .int i => decide (-1 ≤ i) && decide (i ≤ 1)
  | _ => false
def isVec : PyData → Bool
  | .tuple ds => ds.all isSg
  | _ => false
def Small (is : List Int) : Prop := ∀ i ∈ is, -1 ≤ i ∧ i ≤ 1
theorem sg_int {d : PyData} (h : isSg d = true) : ∃ i, d = .int i ∧ -1 ≤ i ∧ i ≤ 1 := by
  cases d with
  | int i =>
    have h2 : (decide (-1 ≤ i) && decide (i ≤ 1)) = true := h
    simp only [Bool.and_eq_true, decide_eq_true_eq] at h2
    exact ⟨i, rfl, h2⟩
  | _ => exact Bool.noConfusion h
theorem all_sg : ∀ {ds : List PyData}, ds.all isSg = true → ∃ is, ds = is.map PyData.int ∧ Small is
  | [], _ => ⟨[], rfl, fun i h => nomatch h⟩
  | d :: ds, h => by
    rw [List.all_cons, Bool.and_eq_true] at h
    obtain ⟨i, rfl, hi⟩ := sg_int h.1
    obtain ⟨is, rfl, hs⟩ := all_sg h.2
    exact ⟨i :: is, rfl, fun j hj => by
      rcases List.mem_cons.mp hj with rfl | hj
      · exact hi
      · exact hs j hj⟩
theorem dt_ints {far : Bool} {H : Hp} : ∀ {is : List Int} {xs : List V}, DtAll far H xs (is.map PyData.int) → xs = is.map V.int
  | [], _, h => by
    cases h
    rfl
  | i :: is, _, h => by
    cases h with
    | cons a b =>
      cases a
      rw [dt_ints b]
      rfl
/-- a vector, as it stands -/
theorem vec_at {far : Bool} {H : Hp} {v : V} {d : PyData} (h : Dt far H v d) (e : isVec d = true) : ∃ is a, d = .tuple (is.map PyData.int) ∧ Small is ∧ v = .ref a ∧ H a = some (.tup (is.map V.int)) := by
  cases h with
  | tup ha t =>
    obtain ⟨is, rfl, hs⟩ := all_sg e
    have q := dt_ints t
    subst q
    exact ⟨is, _, rfl, hs, rfl, ha⟩
  | _ => exact Bool.noConfusion e
theorem vec_of {is : List Int} (h : Small is) : isVec (.tuple (is.map PyData.int)) = true := by
  show (is.map PyData.int).all isSg = true
  rw [List.all_map, List.all_eq_true]
  intro i hi
  show (decide (-1 ≤ i) && decide (i ≤ 1)) = true
  rw [decide_eq_true (h i hi).1, decide_eq_true (h i hi).2]
  rfl
section
variable {P : Program} {w : World} {K : PySem.W.Frag} {mg : Str → Option Value} {base : Heap}
def spAsk (f : PyData → Bool) : Sp := fun vs H Q _ => ∃ v d, vs = [v] ∧ Dt true H v d ∧ ∀ H', Same H H' → Q (.bl (f d)) H'
theorem ok_int {f : Addr} {fd : FuncData} (F : Fun K "is_integer" "is_integer" s_is_integer f fd) (T : Blt mg) : FnOk P w K mg base CX0 1 f fd ["value"] (spAsk fun d => isI d && !isB d) := by
  have sc := sc_is_integer
  refine F.ok sc (fun vs H Q E h => ?_) (fun cdv A outer s H vs Q E hr h => ?_)
  · obtain ⟨v, d, rfl, _⟩ := h
    rfl
  · obtain ⟨v, d, rfl, hd, q⟩ := h
    refine ⟨_, (pss_one (ps_ret (pe_and (pe_callB call_isi (by rfl) T.n_isinstance (by decide +kernel) (pa_cons (pv 0) (pa_cons (pe_bltn (v := .ty "int") (by rfl) T.n_int (by decide +kernel) rfl) pa_nil))) (pe_one (pe_not (pe_callB call_isi (by rfl) T.n_isinstance (by decide +kernel) (pa_cons (pv 0) (pa_cons (pe_bltn (v := .ty "bool") (by rfl) T.n_bool (by decide +kernel) rfl) pa_nil)))))))), ?_⟩
    refine ⟨_, rfl, v, .ty "int", _, _, _, rfl, .ty _, Dt.ty hd, kit_int d, _, rfl, ite2 (fun e => ?_) (fun e => ?_)⟩
    · refine ⟨_, rfl, v, .ty "bool", _, _, _, rfl, .ty _, Dt.ty hd, kit_bool d, _, rfl, ?_⟩
      have q' := q H (Same.refl _)
      dsimp only at q'
      rw [e, Bool.true_and] at q'
      exact q'
    · have q' := q H (Same.refl _)
      dsimp only at q'
      rw [Bool.eq_false_iff.mpr e, Bool.false_and] at q'
      exact q'
theorem ok_sign {f f1 : Addr} {fd d1 : FuncData} (F : Fun K "is_sign" "is_sign" s_is_sign f fd) (T : Blt mg) (F_is_integer : Fun K "is_integer" "is_integer" s_is_integer f1 d1) (b_is_integer : Binds K d1 ["value"] []) (g_is_integer : mg "is_integer" = some (.ref f1)) :
    FnOk P w K mg base CX0 2 f fd ["value"] (spAsk isSg) := by
  have sc := sc_is_sign
  have G_is_integer : FnOk P w K mg base CX0 1 f1 d1 ["value"] _ := ok_int F_is_integer T
  refine F.ok sc (fun vs H Q E h => ?_) (fun cdv A outer s H vs Q E hr h => ?_)
  · obtain ⟨v, d, rfl, _⟩ := h
    rfl
  · obtain ⟨v, d, rfl, hd, q⟩ := h
    refine ⟨_, (pss_one (ps_ret (pe_and (pe_call G_is_integer (hr.mono (by decide)) (by rfl) g_is_integer F_is_integer.kp b_is_integer .nil pass0 (pa_cons (pv 0) pa_nil)) (pe_one (pe_chain op_le op_le (pe_un un_neg pe_int) (pv 0) pe_int))))), ?_⟩
    refine ⟨_, rfl, v, d, rfl, hd, fun H1 s1 => ⟨_, rfl, ite2 (fun e => ?_) (fun e => ?_)⟩⟩
    · have q' := q H1 s1
      cases d with
      | int i =>
        cases hd
        refine ⟨_, rfl, _, rfl, _, _, rfl, rfl, _, rfl, ite2 (fun e1 => ?_) (fun e1 => ?_)⟩
        · refine ⟨_, _, rfl, rfl, ?_⟩
          have q2 : Q (.bl (decide (-1 ≤ i) && decide (i ≤ 1))) H1 := q'
          have e1 : decide (-1 ≤ i) = true := e1
          rw [e1, Bool.true_and] at q2
          exact q2
        · have q2 : Q (.bl (decide (-1 ≤ i) && decide (i ≤ 1))) H1 := q'
          have e1 : decide (-1 ≤ i) = false := Bool.eq_false_iff.mpr e1
          rw [e1, Bool.false_and] at q2
          exact q2
      | _ => first | exact Bool.noConfusion e | (simp [isI, isB] at e)
    · have q' := q H1 s1
      cases d <;> first | exact q' | exact absurd rfl e
/-- not many within -/
structure Few (d : PyData) : Prop where
  tup : ∀ ds, d = .tuple ds → ds.length ≤ 21
  str : ∀ x, d = .str x → x.length ≤ 21
def spVec : Sp := fun vs H Q _ => ∃ v d, vs = [v] ∧ Dt true H v d ∧ Few d ∧ ∀ H', Same H H' → Q (.bl (isVec d)) H'
theorem ok_vec {f f1 : Addr} {fd d1 : FuncData} (F : Fun K "is_vector" "is_vector" s_is_vector f fd) (T : Blt mg) (F_is_sign : Fun K "is_sign" "is_sign" s_is_sign f1 d1) (b_is_sign : Binds K d1 ["value"] []) (g_is_sign : mg "is_sign" = some (.ref f1)) (G_is_sign : FnOk P w K mg base CX0 2 f1 d1 ["value"] (spAsk isSg)) :
    FnOk P w K mg base CX0 3 f fd ["value"] spVec := by
  have sc := sc_is_vector
  refine F.ok sc (fun vs H Q E h => ?_) (fun cdv A outer s H vs Q E hr h => ?_)
  · obtain ⟨v, d, rfl, _⟩ := h
    rfl
  · obtain ⟨v, d, rfl, hd, fw, q⟩ := h
    refine ⟨_, (pss_one (ps_ret (pe_and (pe_callB call_isi (by rfl) T.n_isinstance (by decide +kernel) (pa_cons (pv 0) (pa_cons (pe_bltn (v := .ty "tuple") (by rfl) T.n_tuple (by decide +kernel) rfl) pa_nil))) (pe_one (pe_callB (cr_all rfl) (by rfl) T.n_all (by decide +kernel) (pa_cons (pe_lc (own := [("sign", 1)]) (g := gName 1) (tt := tYes) (by rfl) sc.nd (pi_tup (pv 0)) (blkOk_by (own := [("sign", 1)]) (N := ["value", "sign"]) (sc := defScope s_is_vector) (by decide +kernel)) (fun _ _ _ _ _ => pg_name (i := 1) sc.nd rfl (Or.inl rfl)) (fun _ _ _ _ _ => pts_nil) (fun _ _ _ _ _ => (pe_call G_is_sign (hr.mono (by decide)) (by rfl) g_is_sign F_is_sign.kp b_is_sign .nil pass0 (pa_cons (pv 1) pa_nil)))) pa_nil)))))), ?_⟩
    refine ⟨_, rfl, v, .ty "tuple", _, _, _, rfl, .ty _, Dt.ty hd, kit_tuple d, _, rfl, ite2 (fun e => ?_) (fun e => ?_)⟩
    · cases hd with
      | @tup a xs ds ha t =>
        have len := t.length
        have few := fw.tup ds rfl
        refine ⟨_, rfl, a, rfl, ⟨_, SqT.of ha⟩, fun p hp => lc_tup (xs := xs) (fun j G => Same H G ∧ G p = some (.lst (((ds.map isSg).take j).map V.bl))) ⟨same_new hp, upd_same⟩ (fun j G _ h => SqT.of (h.1 _ _ ha)) ?_ ?_⟩
        · rintro i x G hx ⟨sm, at_⟩
          obtain ⟨d, hd1, hd2⟩ := t.get hx
          refine ⟨rfl, ?_⟩
          refine ⟨_, rfl, x, d, rfl, hd2.same sm, fun G1 s1 => ⟨_, s1 _ _ at_, ?_, fun b o z => (upd_ne (ne_of_none z hp)).trans (s1 _ _ (sm _ _ z)), ?_⟩⟩
          · rw [List.length_map, List.length_take, List.length_map, sizeLine_eq]
            omega
          · have e2 : (ds.map isSg)[i]? = some (isSg d) := by rw [List.getElem?_map, hd1]; rfl
            rw [upd_same, List.take_add_one, e2, List.map_append]
            rfl
        · rintro G ⟨sm, at_⟩
          have el : (ds.map isSg).length = xs.length := by rw [List.length_map, len]
          rw [← el, List.take_length] at at_
          have q' := q G sm
          refine ⟨p, ds.map isSg, rfl, SqL.of at_, ?_⟩
          rw [List.all_map]
          exact q'
      | _ => exact Bool.noConfusion e
    · have q' := q H (Same.refl _)
      cases d <;> first | exact q' | exact absurd rfl e
end
end K13

set_option Elab.async false
set_option linter.all false
set_option maxRecDepth 100000
set_option maxHeartbeats 8000000
namespace K13
open PySem PySem.Spec L2 PSG
open PyProof.Rows (IntsAre AllBare)

theorem ints_dt {far : Bool} {H : Hp} : ∀ is : List Int, DtAll far H (is.map V.int) (is.map PyData.int)
  | [] => .nil
  | i :: is => .cons (.int i) (ints_dt is)
def codeOf (i : Int) : Nat := if i = -1 then 45 else if i = 0 then 48 else 43
def signText (is : List Int) : Str := ⟨(is.map codeOf).toArray⟩
theorem join_ones : ∀ cs : List Nat, Str.join "" (cs.map fun c => (⟨#[c]⟩ : Str)) = ⟨cs.toArray⟩
  | [] => rfl
  | [c] => rfl
  | c :: d :: r => by
    have ih := join_ones (d :: r)
    have e : Str.join "" ((c :: d :: r).map fun c => (⟨#[c]⟩ : Str)) = ⟨#[c]⟩ ++ "" ++ Str.join "" ((d :: r).map fun c => (⟨#[c]⟩ : Str)) := rfl
    rw [e, ih]
    show (⟨#[c] ++ #[] ++ (d :: r).toArray⟩ : Str) = _
    simp
def rsg (c : Nat) : Int := Txt.find three ⟨#[c]⟩ - 1
def inThree (x : Str) : Bool := x.cps.toList.all fun c => decide (c ∈ three.cps.toList)
def readS (x : Str) : List Int := x.cps.toList.map rsg
theorem rsg_no {c : Nat} (h : ¬ c ∈ three.cps.toList) : rsg c = -2 := by
  have f := PySem.StrLaws.found_one three c
  rw [decide_eq_false h] at f
  have e : Builtin.Str.occurrences three ⟨#[c]⟩ 0 three.length 1 = [] := by
    cases q : Builtin.Str.occurrences three ⟨#[c]⟩ 0 three.length 1 with
    | nil => rfl
    | cons a b =>
      rw [q] at f
      cases f
  unfold rsg Txt.find
  rw [e]
  rfl
theorem rsg_yes : ∀ c ∈ three.cps.toList, (-1 ≤ rsg c ∧ rsg c ≤ 1) ∧ codeOf (rsg c) = c := by
  have h : (three.cps.toList.all fun c => decide (-1 ≤ rsg c) && decide (rsg c ≤ 1) && decide (codeOf (rsg c) = c)) = true := by decide +kernel
  intro c hc
  have z := List.all_eq_true.mp h c hc
  simp only [Bool.and_eq_true, decide_eq_true_eq] at z
  exact z
theorem rsg_sg (c : Nat) : isSg (.int (rsg c)) = decide (c ∈ three.cps.toList) := by
  by_cases h : c ∈ three.cps.toList
  · have z := (rsg_yes c h).1
    show (decide (-1 ≤ rsg c) && decide (rsg c ≤ 1)) = _
    rw [decide_eq_true z.1, decide_eq_true z.2, decide_eq_true h]
    rfl
  · rw [rsg_no h, decide_eq_false h]
    rfl
theorem read_vec (x : Str) : isVec (.tuple ((readS x).map PyData.int)) = inThree x := by
  show ((readS x).map PyData.int).all isSg = inThree x
  unfold readS inThree
  rw [List.all_map, List.all_map]
  congr 1
  funext c
  exact rsg_sg c
section
variable {P : Program} {w : World} {K : PySem.W.Frag} {mg : Str → Option Value} {base : Heap}
def spSignText : Sp := fun vs H Q _ => ∃ i : Int, vs = [.int i] ∧ -1 ≤ i ∧ i ≤ 1 ∧ Q (.str ⟨#[codeOf i]⟩) H
theorem ok_sign_text {f : Addr} {fd : FuncData} (F : Fun K "sign_text" "sign_text" s_sign_text f fd) (U : Cst mg) : FnOk P w K mg base CX0 1 f fd ["sign"] spSignText := by
  have sc := sc_sign_text
  obtain ⟨tS, cS⟩ := U.c_SIGN_TEXTS
  refine F.ok sc (fun vs H Q E h => ?_) (fun cdv A outer s H vs Q E hr h => ?_)
  · obtain ⟨i, rfl, _⟩ := h
    rfl
  · obtain ⟨i, rfl, l1, l2, q⟩ := h
    refine ⟨_, (pss_one (ps_ret (pe_ix ix_str (pe_glob (v := .str three) (by rfl) cS ⟨_, rfl⟩) (pe_op op_add (pv 0) pe_int) (fun _ _ => rfl)))), ?_⟩
    have e : i = -1 ∨ i = 0 ∨ i = 1 := by omega
    have ln : three.length ≤ sizeLine := by rw [show three.length = 3 by decide +kernel, sizeLine_eq]; decide
    rcases e with rfl | rfl | rfl
    · exact ⟨_, rfl, _, _, rfl, rfl, three, _, 45, rfl, rfl, ln, (by decide +kernel), q⟩
    · exact ⟨_, rfl, _, _, rfl, rfl, three, _, 48, rfl, rfl, ln, (by decide +kernel), q⟩
    · exact ⟨_, rfl, _, _, rfl, rfl, three, _, 43, rfl, rfl, ln, (by decide +kernel), q⟩
def spReadSign : Sp := fun vs H Q _ => ∃ c : Nat, vs = [.str ⟨#[c]⟩] ∧ Q (.int (rsg c)) H
theorem ok_read_sign {f : Addr} {fd : FuncData} (F : Fun K "read_sign" "read_sign" s_read_sign f fd) (U : Cst mg) : FnOk P w K mg base CX0 1 f fd ["text"] spReadSign := by
  have sc := sc_read_sign
  obtain ⟨tS, cS⟩ := U.c_SIGN_TEXTS
  refine F.ok sc (fun vs H Q E h => ?_) (fun cdv A outer s H vs Q E hr h => ?_)
  · obtain ⟨c, rfl, _⟩ := h
    rfl
  · obtain ⟨c, rfl, q⟩ := h
    refine ⟨_, (pss_one (ps_ret (pe_op op_sub (pe_m1 PySem.F.slot_str_find PySem.F.type_str_find mt_find (pe_glob (v := .str three) (by rfl) cS ⟨_, rfl⟩) (pv 0)) pe_int))), ?_⟩
    exact ⟨⟨_, rfl⟩, _, rfl, three, ⟨#[c]⟩, rfl, rfl, _, _, rfl, rfl, q⟩
/-- the turned vector, or what is raised -/
def spTurned (C : Addr) : Sp := fun vs H Q E => ∃ v d, vs = [v] ∧ Dt true H v d ∧ Few d ∧ (∀ is, d = .tuple (is.map PyData.int) → Small is → ∀ p H', Same H H' → H' p = some (.tup ((is.map fun i => -i).map V.int)) → Q (.ref p) H') ∧
  (isVec d = false → ∀ o H', Same H H' → ExS H' o [("value", v)] → E (.ref C) o H')
theorem ok_turned {CV f f1 : Addr} {fd d1 : FuncData} (F : Fun K "turned" "turned" s_turned f fd) (T : Blt mg) (OV : Own P w K mg base "InvalidVector" CV ["value"])
    (F_is_vector : Fun K "is_vector" "is_vector" s_is_vector f1 d1) (b_is_vector : Binds K d1 ["value"] []) (g_is_vector : mg "is_vector" = some (.ref f1)) (G_is_vector : FnOk P w K mg base CX0 3 f1 d1 ["value"] spVec) :
    FnOk P w K mg base (L2.CX P w) 4 f fd ["vector"] (spTurned CV) := by
  have sc := sc_turned
  refine Fun.okX F sc (fun vs H Q E h => ?_) (fun cdv A outer s H vs Q E hr h => ?_)
  · obtain ⟨v, d, rfl, _⟩ := h
    rfl
  · obtain ⟨v, d, rfl, hd, fw, q1, q2⟩ := h
    refine ⟨_, (pss_cons (ps_if (pt_not (pt_val (pe_call G_is_vector (hr.mono (by decide)) (by rfl) g_is_vector F_is_vector.kp b_is_vector .nil pass0 (pa_cons (pv 0) pa_nil)))) (pss_one (ps_raise rfl (takes_of rfl rfl rfl rfl) (pmk_own1 OV (hr.mono (by decide)) (by rfl) (pa_cons (pv 0) pa_nil)))) pss_nil)
      (pss_one (ps_ret (pe_callTy call_tuple_of (by rfl) T.n_tuple (by decide +kernel) (pa_cons (pe_lc (own := [("sign", 1)]) (g := gName 1) (tt := tYes) (by rfl) sc.nd (pi_tup (pv 0)) (blkOk_by (own := [("sign", 1)]) (N := ["vector", "sign"]) (sc := defScope s_turned) (by decide +kernel)) (fun _ _ _ _ _ => pg_name (i := 1) sc.nd rfl (Or.inl rfl)) (fun _ _ _ _ _ => pts_nil) (fun _ _ _ _ _ => (pe_un un_neg (pv 1)))) pa_nil))))), ?_⟩
    refine ⟨_, rfl, v, d, rfl, hd, fw, fun H1 s1 => ⟨_, rfl, ite2 (fun a => ?_) (fun a => ?_)⟩⟩
    · exact ⟨_, rfl, rfl, (by show 1 ≤ 1000; decide), fun o H3 s3 xs => q2 (by simpa using a) o H3 (s1.trans s3) xs⟩
    · have yes : isVec d = true := by simpa using a
      obtain ⟨is, b, rfl, sm, rfl, hb⟩ := vec_at hd yes
      have few := fw.tup _ rfl
      rw [List.length_map] at few
      refine ⟨_, rfl, b, rfl, ⟨_, SqT.of (s1 _ _ hb)⟩, fun p hp => lc_tup (xs := is.map V.int) (fun j G => Same H1 G ∧ G p = some (.lst (((is.map fun i => -i).take j).map V.int))) ⟨same_new hp, upd_same⟩ (fun j G _ h => SqT.of (h.1 _ _ (s1 _ _ hb))) ?_ ?_⟩
      · rintro i x G hx ⟨k, at_⟩
        rw [List.getElem?_map] at hx
        cases hi : is[i]? with
        | none =>
          rw [hi] at hx
          cases hx
        | some z =>
          rw [hi] at hx
          cases hx
          refine ⟨rfl, ?_⟩
          refine ⟨_, rfl, _, rfl, _, at_, ?_, fun b' o z' => (upd_ne (ne_of_none z' hp)).trans (k _ _ z'), ?_⟩
          · rw [List.length_map, List.length_take, List.length_map, sizeLine_eq]
            omega
          · have e2 : (is.map fun i => -i)[i]? = some (-z) := by rw [List.getElem?_map, hi]; rfl
            rw [upd_same, List.take_add_one, e2, List.map_append]
            rfl
      · rintro G ⟨k, at_⟩
        have el : (is.map fun i => -i).length = (is.map V.int).length := by rw [List.length_map, List.length_map]
        rw [← el, List.take_length] at at_
        refine ⟨p, _, rfl, .inl ⟨SqL.of at_, fun l hl => q1 is rfl sm l _ (s1.trans (k.trans (same_new hl))) upd_same⟩⟩
/-- the text of a vector, or what is raised -/
def spText (C : Addr) : Sp := fun vs H Q E => ∃ v d, vs = [v] ∧ Dt true H v d ∧ Few d ∧ (∀ is, d = .tuple (is.map PyData.int) → Small is → ∀ H', Same H H' → Q (.str (signText is)) H') ∧
  (isVec d = false → ∀ o H', Same H H' → ExS H' o [("value", v)] → E (.ref C) o H')
theorem ok_text {CV f f1 f2 : Addr} {fd d1 d2 : FuncData} (F : Fun K "vector_text" "vector_text" s_vector_text f fd) (T : Blt mg) (U : Cst mg) (OV : Own P w K mg base "InvalidVector" CV ["value"])
    (F_is_vector : Fun K "is_vector" "is_vector" s_is_vector f1 d1) (b_is_vector : Binds K d1 ["value"] []) (g_is_vector : mg "is_vector" = some (.ref f1)) (G_is_vector : FnOk P w K mg base CX0 3 f1 d1 ["value"] spVec)
    (F_sign_text : Fun K "sign_text" "sign_text" s_sign_text f2 d2) (b_sign_text : Binds K d2 ["sign"] []) (g_sign_text : mg "sign_text" = some (.ref f2)) :
    FnOk P w K mg base (L2.CX P w) 4 f fd ["vector"] (spText CV) := by
  have sc := sc_vector_text
  have G_sign_text : FnOk P w K mg base CX0 1 f2 d2 ["sign"] _ := ok_sign_text F_sign_text U
  refine Fun.okX F sc (fun vs H Q E h => ?_) (fun cdv A outer s H vs Q E hr h => ?_)
  · obtain ⟨v, d, rfl, _⟩ := h
    rfl
  · obtain ⟨v, d, rfl, hd, fw, q1, q2⟩ := h
    refine ⟨_, (pss_cons (ps_if (pt_not (pt_val (pe_call G_is_vector (hr.mono (by decide)) (by rfl) g_is_vector F_is_vector.kp b_is_vector .nil pass0 (pa_cons (pv 0) pa_nil)))) (pss_one (ps_raise rfl (takes_of rfl rfl rfl rfl) (pmk_own1 OV (hr.mono (by decide)) (by rfl) (pa_cons (pv 0) pa_nil)))) pss_nil)
      (pss_one (ps_ret (pe_join pe_str (pe_lc (own := [("sign", 1)]) (g := gName 1) (tt := tYes) (by rfl) sc.nd (pi_tup (pv 0)) (blkOk_by (own := [("sign", 1)]) (N := ["vector", "sign"]) (sc := defScope s_vector_text) (by decide +kernel)) (fun _ _ _ _ _ => pg_name (i := 1) sc.nd rfl (Or.inl rfl)) (fun _ _ _ _ _ => pts_nil) (fun _ _ _ _ _ => (pe_call G_sign_text (hr.mono (by decide)) (by rfl) g_sign_text F_sign_text.kp b_sign_text .nil pass0 (pa_cons (pv 1) pa_nil)))))))), ?_⟩
    refine ⟨_, rfl, v, d, rfl, hd, fw, fun H1 s1 => ⟨_, rfl, ite2 (fun a => ?_) (fun a => ?_)⟩⟩
    · exact ⟨_, rfl, rfl, (by show 1 ≤ 1000; decide), fun o H3 s3 xs => q2 (by simpa using a) o H3 (s1.trans s3) xs⟩
    · have yes : isVec d = true := by simpa using a
      obtain ⟨is, b, rfl, sm, rfl, hb⟩ := vec_at hd yes
      have few := fw.tup _ rfl
      rw [List.length_map] at few
      refine ⟨⟨_, rfl⟩, _, rfl, b, rfl, ⟨_, SqT.of (s1 _ _ hb)⟩, ?_⟩
      refine fun p hp => lc_tup (xs := is.map V.int) (fun j G => Same H1 G ∧ G p = some (.lst (((is.map fun i => (⟨#[codeOf i]⟩ : Str)).take j).map V.str))) ⟨same_new hp, upd_same⟩ (fun j G _ h => SqT.of (h.1 _ _ (s1 _ _ hb))) ?_ ?_
      · rintro i x G hx ⟨k, at_⟩
        rw [List.getElem?_map] at hx
        cases hi : is[i]? with
        | none =>
          rw [hi] at hx
          cases hx
        | some z =>
          rw [hi] at hx
          cases hx
          have sz := sm z (List.mem_of_getElem? hi)
          refine ⟨rfl, ?_⟩
          refine ⟨_, rfl, z, rfl, sz.1, sz.2, _, at_, ?_, fun b' o z' => (upd_ne (ne_of_none z' hp)).trans (k _ _ z'), ?_⟩
          · rw [List.length_map, List.length_take, List.length_map, sizeLine_eq]
            omega
          · have e2 : (is.map fun i => (⟨#[codeOf i]⟩ : Str))[i]? = some ⟨#[codeOf z]⟩ := by rw [List.getElem?_map, hi]; rfl
            rw [upd_same, List.take_add_one, e2, List.map_append]
            rfl
      · rintro G ⟨k, at_⟩
        have el : (is.map fun i => (⟨#[codeOf i]⟩ : Str)).length = (is.map V.int).length := by rw [List.length_map, List.length_map]
        rw [← el, List.take_length] at at_
        refine ⟨"", p, is.map fun i => (⟨#[codeOf i]⟩ : Str), rfl, rfl, .inl (SqL.of at_), ?_, ?_⟩
        · have one : ∀ l : List Int, ((l.map fun i => (⟨#[codeOf i]⟩ : Str)).map (·.length)).sum = l.length := fun l => by
            induction l with
            | nil => rfl
            | cons c l ih =>
              rw [List.map_cons, List.map_cons, List.sum_cons, ih, List.length_cons]
              show 1 + l.length = _
              omega
          have e0 : ("" : Str).length = 0 := rfl
          rw [one, e0]
          omega
        · rw [TL.join_eq]
          have e := join_ones (is.map codeOf)
          rw [List.map_map] at e
          have q' := q1 is rfl sm G (s1.trans k)
          unfold signText at q'
          rw [← e] at q'
          exact q'
def spRead (C : Addr) : Sp := fun vs H Q E => ∃ v d, vs = [v] ∧ Dt true H v d ∧ Few d ∧ (∀ x, d = .str x → inThree x = true → ∀ p H', Same H H' → H' p = some (.tup ((readS x).map V.int)) → Q (.ref p) H') ∧
  ((∀ x, d = .str x → inThree x = false) → ∀ o H', Same H H' → ExS H' o [("value", v)] → E (.ref C) o H')
theorem ok_read {CT f f1 f2 : Addr} {fd d1 d2 : FuncData} (F : Fun K "read_vector" "read_vector" s_read_vector f fd) (T : Blt mg) (U : Cst mg) (OT : Own P w K mg base "InvalidText" CT ["value"])
    (F_is_vector : Fun K "is_vector" "is_vector" s_is_vector f1 d1) (b_is_vector : Binds K d1 ["value"] []) (g_is_vector : mg "is_vector" = some (.ref f1)) (G_is_vector : FnOk P w K mg base CX0 3 f1 d1 ["value"] spVec)
    (F_read_sign : Fun K "read_sign" "read_sign" s_read_sign f2 d2) (b_read_sign : Binds K d2 ["text"] []) (g_read_sign : mg "read_sign" = some (.ref f2)) :
    FnOk P w K mg base (L2.CX P w) 4 f fd ["text"] (spRead CT) := by
  have sc := sc_read_vector
  have G_read_sign : FnOk P w K mg base CX0 1 f2 d2 ["text"] _ := ok_read_sign F_read_sign U
  refine Fun.okX F sc (fun vs H Q E h => ?_) (fun cdv A outer s H vs Q E hr h => ?_)
  · obtain ⟨v, d, rfl, _⟩ := h
    rfl
  · obtain ⟨v, d, rfl, hd, fw, q1, q2⟩ := h
    refine ⟨_, (pss_cons (ps_if (pt_not (pt_val (pe_callB call_isi (by rfl) T.n_isinstance (by decide +kernel) (pa_cons (pv 0) (pa_cons (pe_bltn (v := .ty "str") (by rfl) T.n_str (by decide +kernel) rfl) pa_nil))))) (pss_one (ps_raise rfl (takes_of rfl rfl rfl rfl) (pmk_own1 OT (hr.mono (by decide)) (by rfl) (pa_cons (pv 0) pa_nil)))) pss_nil)
      (pss_cons (ps_set (i := 1) sc.nd rfl (.inl rfl) (pe_callTy call_tuple_of (by rfl) T.n_tuple (by decide +kernel) (pa_cons (pe_lc (own := [("letter", 2)]) (g := gName 2) (tt := tYes) (by rfl) sc.nd (pi_str (pv 0)) (blkOk_by (own := [("letter", 2)]) (N := ["text", "vector", "letter"]) (sc := defScope s_read_vector) (by decide +kernel)) (fun _ _ _ _ _ => pg_name (i := 2) sc.nd rfl (Or.inl rfl)) (fun _ _ _ _ _ => pts_nil) (fun _ _ _ _ _ => (pe_call G_read_sign (hr.mono (by decide)) (by rfl) g_read_sign F_read_sign.kp b_read_sign .nil pass0 (pa_cons (pv 2) pa_nil)))) pa_nil)))
      (pss_cons (ps_if (pt_not (pt_val (pe_call G_is_vector (hr.mono (by decide)) (by rfl) g_is_vector F_is_vector.kp b_is_vector .nil pass0 (pa_cons (pv 1) pa_nil)))) (pss_one (ps_raise rfl (takes_of rfl rfl rfl rfl) (pmk_own1 OT (hr.mono (by decide)) (by rfl) (pa_cons (pv 0) pa_nil)))) pss_nil)
      (pss_one (ps_ret (pv 1)))))), ?_⟩
    refine ⟨_, rfl, v, .ty "str", _, _, _, rfl, .ty _, Dt.ty hd, kit_str d, _, rfl, ite2 (fun e => ?_) (fun e => ?_)⟩
    · refine ⟨_, rfl, rfl, (by show 1 ≤ 1000; decide), fun o H3 s3 xs => q2 (fun x ex => ?_) o H3 s3 xs⟩
      rw [ex] at e
      cases e
    · have yes : isS d = true := by simpa using e
      cases hd with
      | str x =>
        have few := fw.str x rfl
        have rl : (readS x).length = x.cps.size := by
          unfold readS
          rw [List.length_map, Array.length_toList]
        have e3 : x.cps.size ≤ 21 := few
        refine ⟨_, rfl, x, rfl, fun p hp => lc_str (fun j G => Same H G ∧ G p = some (.lst (((readS x).take j).map V.int))) ⟨same_new hp, upd_same⟩ ?_ ?_⟩
        · rintro i c G hc ⟨sm, at_⟩
          refine ⟨rfl, ?_⟩
          refine ⟨_, rfl, c, rfl, _, at_, ?_, fun b o z => (upd_ne (ne_of_none z hp)).trans (sm _ _ z), ?_⟩
          · rw [List.length_map, List.length_take, rl, sizeLine_eq]
            omega
          · have e2 : (readS x)[i]? = some (rsg c) := by
              unfold readS
              rw [List.getElem?_map, Array.getElem?_toList, hc]
              rfl
            rw [upd_same, List.take_add_one, e2, List.map_append]
            rfl
        · rintro G ⟨sm, at_⟩
          rw [← rl, List.take_length] at at_
          refine ⟨p, _, rfl, .inl ⟨SqL.of at_, fun l hl => ?_⟩⟩
          have s2 := sm.trans (same_new (o := .tup ((readS x).map V.int)) hl)
          have al : upd G l (.tup ((readS x).map V.int)) l = some (.tup ((readS x).map V.int)) := upd_same
          generalize upd G l (.tup ((readS x).map V.int)) = G2 at s2 al ⊢
          have dl : Dt true G2 (.ref l) (.tuple ((readS x).map PyData.int)) := .tup al (ints_dt _)
          refine ⟨_, rfl, _, _, rfl, dl, ⟨fun ds e => ?_, fun y e => nomatch e⟩, fun G3 s3 => ⟨_, rfl, ite2 (fun a => ?_) (fun a => ?_)⟩⟩
          · cases e
            rw [List.length_map, rl]
            exact e3
          · rw [read_vec] at a
            refine ⟨_, rfl, rfl, (by show 1 ≤ 1000; decide), fun o H3 s4 xs => q2 (fun y ey => ?_) o H3 (s2.trans (s3.trans s4)) xs⟩
            cases ey
            simpa using a
          · rw [read_vec] at a
            exact ⟨_, rfl, q1 x rfl (by simpa using a) l G3 (s2.trans s3) (s3 _ _ al)⟩
      | _ => exact Bool.noConfusion yes
end
end K13

set_option Elab.async false
set_option linter.all false
set_option maxRecDepth 100000
set_option maxHeartbeats 8000000
namespace K13
open PySem PySem.Spec L2 PSG
open PyProof.Rows (IntsAre AllBare)
abbrev s__law_signs : Stmt := topS 23
theorem sc__law_signs : FnScope ["_law_rng_here", "_law_k"] ["_law_rng_here"] (defScope s__law_signs) := ⟨rfl, rfl, rfl, by decide +kernel, rfl, by decide +kernel, by decide +kernel⟩
abbrev s__law_thing : Stmt := topS 24
theorem sc__law_thing : FnScope ["_law_rng_here", "_law_row", "_law_way", "_law_at", "_law_odd"] ["_law_rng_here"] (defScope s__law_thing) := ⟨rfl, rfl, rfl, by decide +kernel, rfl, by decide +kernel, by decide +kernel⟩

structure Tng (d : PyData) : Prop where
  fine : Fine d
  few : Few d
section
variable {P : Program} {w : World} {K : PySem.W.Frag} {mg : Str → Option Value} {base : Heap}
def spSigns : Sp := fun vs H Q _ => ∃ r : Addr, vs = [.ref r] ∧ Rg H r ∧ ∀ p is H', Rg H' r → But r H H' → Small is → is.length ≤ 10 → H p = none → H' p = some (.tup (is.map V.int)) → Q (.ref p) H'
theorem ok_signs {f fD : Addr} {fd fdD : FuncData} (F : Fun K "_law_signs" "_law_signs" s__law_signs f fd) (T : Blt mg) (F__law_draw : Fun K "_law_draw" "_law_draw" s__law_draw fD fdD) (b__law_draw : Binds K fdD ["_law_rng_here", "_law_many"] [])
    (g__law_draw : mg "_law_draw" = some (.ref fD)) : FnOk P w K mg base CX0 2 f fd ["_law_rng_here"] spSigns := by
  have sc := sc__law_signs
  have G__law_draw : FnOk P w K mg base CX0 1 fD fdD _ spDraw := ok_draw F__law_draw T
  refine F.ok sc (fun vs H Q E h => ?_) (fun cdv A outer s H vs Q E hr h => ?_)
  · obtain ⟨r, rfl, _⟩ := h
    rfl
  · obtain ⟨r, rfl, hR, q⟩ := h
    refine ⟨_, (pss_one (ps_ret (pe_callTy call_tuple_of (by rfl) T.n_tuple (by decide +kernel) (pa_cons (pe_lc (own := [("_law_k", 1)]) (g := gName 1) (tt := tYes) (by rfl) sc.nd (pi_range1 (by rfl) T.n_range (pa_cons (pe_call G__law_draw (hr.mono (by decide)) (by rfl) g__law_draw F__law_draw.kp b__law_draw .nil pass0 (pa_cons (pv 0) (pa_cons pe_int pa_nil))) pa_nil)) (blkOk_by (own := [("_law_k", 1)]) (N := ["_law_rng_here", "_law_k"]) (sc := defScope s__law_signs) (by decide +kernel)) (fun _ _ _ _ _ => pg_name (i := 1) sc.nd rfl (Or.inl rfl)) (fun _ _ _ _ _ => pts_nil) (fun _ _ _ _ _ => (pe_op op_sub (pe_call G__law_draw (hr.mono (by decide)) (by rfl) g__law_draw F__law_draw.kp b__law_draw .nil pass0 (pa_cons (pv 0) (pa_cons pe_int pa_nil))) pe_int))) pa_nil)))), ?_⟩
    refine ⟨_, rfl, r, 11, rfl, hR, by decide, by decide, fun m H4 m0 m1 g4 b4 => ⟨m, rfl, by omega, by omega, fun D hD => ?_⟩⟩
    have nDr : D ≠ r := fun z => by
      obtain ⟨o, e⟩ := g4.some
      rw [z, e] at hD
      cases hD
    refine lc_range (lo := 0) (n := m.toNat) (fun j G => Rg G r ∧ (∀ b o, b ≠ r → b ≠ D → upd H4 D (.lst []) b = some o → G b = some o) ∧ ∃ is : List Int, G D = some (.lst (is.map V.int)) ∧ is.length = j ∧ Small is)
      ⟨g4.new hD, fun b o _ _ e => e, [], upd_same, rfl, fun y hy => nomatch hy⟩ ?_ ?_
    · rintro j G hj ⟨gR, keep, is, aD, ly, oy⟩
      refine ⟨rfl, ?_⟩
      refine ⟨_, rfl, r, 3, rfl, gR, by decide, by decide, fun c H5 c0 c1 g5 b5 => ?_⟩
      have aD5 := b5 _ _ nDr aD
      refine ⟨_, _, rfl, rfl, _, aD5, by rw [List.length_map, sizeLine_eq]; omega, ?_, fun b o n1 n2 e => (upd_ne n2).trans (b5 _ _ n1 (keep _ _ n1 n2 e)), is ++ [c - 1], ?_, by rw [List.length_append, ly]; rfl, fun y hy => ?_⟩
      · obtain ⟨x', y', e, z'⟩ := g5
        exact ⟨x', y', (upd_ne (Ne.symm nDr)).trans e, z'⟩
      · rw [upd_same, List.map_append]
        rfl
      · rcases List.mem_append.mp hy with hy | hy
        · exact oy y hy
        · have ey : y = c - 1 := by simpa using hy
          omega
    · rintro G ⟨gR, keep, is, aD, ly, oy⟩
      have old : ∀ b o, b ≠ r → H b = some o → G b = some o := fun b o n e => by
        have e2 := b4 _ _ n e
        exact keep b o n (ne_of_none e2 hD) ((upd_ne (ne_of_none e2 hD)).trans e2)
      refine ⟨D, _, rfl, .inl ⟨SqL.of aD, fun l hl => ?_⟩⟩
      refine q l is _ (gR.new hl) (fun b o n e => (upd_ne (ne_of_none (old b o n e) hl)).trans (old b o n e)) oy (by omega) ?_ upd_same
      cases e : H l with
      | none => rfl
      | some u =>
        by_cases n : l = r
        · obtain ⟨o, e2⟩ := gR.some
          rw [n, e2] at hl
          cases hl
        · rw [old l u n e] at hl
          cases hl
theorem el_small {i : Int} (h : -1 ≤ i ∧ i ≤ 1) : El (.int i) := by
  have e : i = -1 ∨ i = 0 ∨ i = 1 := by omega
  rcases e with rfl | rfl | rfl
  · exact el_dec (by decide +kernel)
  · exact el_dec (by decide +kernel)
  · exact el_dec (by decide +kernel)
theorem fine_vec {is : List Int} (h : Small is) (few : is.length ≤ 21) : Fine (.tuple (is.map PyData.int)) := fine_tuple (by rw [List.length_map]; exact few) fun d hd => by
  obtain ⟨i, hi, rfl⟩ := List.mem_map.mp hd
  exact el_small (h i hi)
theorem ok_from : ∀ (ts : List Str) (k : Nat) (acc : Str), PyData.strOk acc = true → (∀ t ∈ ts, PyData.strOk t = true) → PyData.strOk (textFrom k acc ts) = true
  | [], _, _, h, _ => h
  | t :: r, k, acc, h, ht => by
    refine ok_from r (k + 1) _ (ok_app ?_ (ht t List.mem_cons_self)) fun x hx => ht x (List.mem_cons_of_mem _ hx)
    split
    · exact ok_app h (by decide +kernel)
    · exact h
theorem ok_list {ts : List Str} (h : ∀ t ∈ ts, PyData.strOk t = true) : PyData.strOk (listText ts) = true := ok_app (ok_from ts 0 "[" (by decide +kernel) h) (by decide +kernel)
theorem fine_row {is : List Int} (h : Small is) (few : is.length ≤ 21) : Fine (.list (is.map PyData.int)) := by
  obtain ⟨h1, h2, h3, h4, h5⟩ := els_all (ds := is.map PyData.int) fun d hd => by
    obtain ⟨i, hi, rfl⟩ := List.mem_map.mp hd
    exact el_small (h i hi)
  have ln : (is.map PyData.int).length = is.length := List.length_map _
  refine ⟨by simpa only [PyData.showable] using h1, ?_, ?_, ok_list h5⟩
  · have l := listText_len_le (PyData.shownAll (is.map PyData.int))
    show (listText (PyData.shownAll (is.map PyData.int))).length ≤ 1000
    omega
  · simp only [PyData.depth]
    omega
theorem cut_ints (is : List Int) (lo hi : Option Int) : ∃ js : List Int, cutV (is.map V.int) lo hi = js.map V.int ∧ js.length ≤ is.length ∧ ∀ i ∈ js, i ∈ is := by
  refine ⟨(is.drop (HT.sIx (is.map V.int).length 0 lo)).take (HT.sIx (is.map V.int).length (is.map V.int).length hi - HT.sIx (is.map V.int).length 0 lo), ?_, ?_, fun i hi => List.mem_of_mem_drop (List.mem_of_mem_take hi)⟩
  · unfold cutV
    rw [List.map_take, List.map_drop]
  · rw [List.length_take, List.length_drop]
    omega
/-- a thing: data, all of it new -/
def spThing : Sp := fun vs H Q _ => ∃ r : Addr, vs = [.ref r] ∧ Rg H r ∧ ∀ v d H', Rg H' r → But r H H' → Dt true (news H H') v d → Tng d → Q v H'
theorem thing_tup {ds : List PyData} (few : ds.length ≤ 21) (h : ∀ d ∈ ds, El d) : Tng (.tuple ds) := ⟨fine_tuple few h, ⟨fun es e => (by
  cases e
  omega), fun x e => nomatch e⟩⟩
theorem thing_row {is : List Int} (h : Small is) (few : is.length ≤ 21) : Tng (.list (is.map PyData.int)) := ⟨fine_row h few, ⟨fun es e => (nomatch e), fun x e => (nomatch e)⟩⟩
def fewB : PyData → Bool
  | .tuple ds => decide (ds.length ≤ 21)
  | .str x => decide (x.length ≤ 21)
  | _ => true
theorem few_dec {d : PyData} (h : fewB d = true) : Few d where
  tup := fun ds e => by
    subst e
    exact of_decide_eq_true h
  str := fun x e => by
    subst e
    exact of_decide_eq_true h
theorem thing_dec {d : PyData} (h : (d.showable && decide (d.shown.length ≤ 1000) && decide (d.depth ≤ 6) && PyData.strOk d.shown) = true) (f : fewB d = true) : Tng d := ⟨fine_dec h, few_dec f⟩
theorem ints_els {js : List Int} (h : ∀ i ∈ js, -1 ≤ i ∧ i ≤ 1) : ∀ d ∈ js.map PyData.int, El d := fun d hd => by
  obtain ⟨i, hi, rfl⟩ := List.mem_map.mp hd
  exact el_small (h i hi)
theorem ok_thing {f fD fC fS : Addr} {fd fdD fdC fdS : FuncData} (F : Fun K "_law_thing" "_law_thing" s__law_thing f fd) (T : Blt mg) (F__law_draw : Fun K "_law_draw" "_law_draw" s__law_draw fD fdD) (b__law_draw : Binds K fdD ["_law_rng_here", "_law_many"] [])
    (g__law_draw : mg "_law_draw" = some (.ref fD)) (F__law_choice : Fun K "_law_choice" "_law_choice" s__law_choice fC fdC) (b__law_choice : Binds K fdC ["_law_rng_here", "_law_options"] []) (g__law_choice : mg "_law_choice" = some (.ref fC))
    (F__law_signs : Fun K "_law_signs" "_law_signs" s__law_signs fS fdS) (b__law_signs : Binds K fdS ["_law_rng_here"] []) (g__law_signs : mg "_law_signs" = some (.ref fS)) :
    FnOk P w K mg base CX0 3 f fd ["_law_rng_here"] spThing := by
  have sc := sc__law_thing
  have G__law_draw : FnOk P w K mg base CX0 1 fD fdD _ spDraw := ok_draw F__law_draw T
  have G__law_choice : FnOk P w K mg base CX0 2 fC fdC ["_law_rng_here", "_law_options"] (spChoice K) := ok_choice F__law_choice T F__law_draw b__law_draw g__law_draw
  have G__law_signs : FnOk P w K mg base CX0 2 fS fdS _ spSigns := ok_signs F__law_signs T F__law_draw b__law_draw g__law_draw
  refine F.ok sc (fun vs H Q E h => ?_) (fun cdv A outer s H vs Q E hr h => ?_)
  · obtain ⟨r, rfl, _⟩ := h
    rfl
  · obtain ⟨r, rfl, hR, q⟩ := h
    have there := hR.some
    have noR : ∀ {G : Hp} {p : Addr}, Rg G r → G p = none → p ≠ r := fun g h z => by
      obtain ⟨o, e⟩ := g.some
      rw [z, e] at h
      cases h
    have gone : ∀ {G : Hp} {p : Addr}, Rg G r → But r H G → G p = none → H p = none := fun {G p} g b h => by
      cases e : H p with
      | none => rfl
      | some u =>
        rw [b p u (noR g h) e] at h
        cases h
    refine ⟨_, (pss_cons (ps_par (i := 1) (j := 2) (by rfl) sc.nd rfl rfl (by decide) rfl rfl (pa_cons (pe_callTy call_list_ofF (by rfl) T.n_list (by decide +kernel) (pa_cons (pe_call G__law_signs (hr.mono (by decide)) (by rfl) g__law_signs F__law_signs.kp b__law_signs .nil pass0 (pa_cons (pv 0) pa_nil)) pa_nil)) (pa_cons (pe_call G__law_draw (hr.mono (by decide)) (by rfl) g__law_draw F__law_draw.kp b__law_draw .nil pass0 (pa_cons (pv 0) (pa_cons pe_int pa_nil))) pa_nil)) (by rfl))
      (pss_cons (ps_if (pt_cmpR op_eq (pv 2) pe_int (nomark _)) (pss_one (ps_ret (pe_callTy call_tuple_of (by rfl) T.n_tuple (by decide +kernel) (pa_cons (pv 1) pa_nil)))) pss_nil)
      (pss_cons (ps_if (pt_cmpR op_eq (pv 2) pe_int (nomark _)) (pss_one (ps_ret (pv 1))) pss_nil)
      (pss_cons (ps_if (pt_cmpR op_eq (pv 2) pe_int (nomark _)) (pss_cons (ps_set (i := 3) sc.nd rfl (.inl rfl) (pe_call G__law_draw (hr.mono (by decide)) (by rfl) g__law_draw F__law_draw.kp b__law_draw .nil pass0 (pa_cons (pv 0) (pa_cons (pe_op op_add (pe_callB call_len_seq (by rfl) T.n_len PySem.boot_len (pa_cons (pv 1) pa_nil)) pe_int) pa_nil))))
      (pss_cons (ps_set (i := 4) sc.nd rfl (.inl rfl) (pe_call G__law_choice (hr.mono (by decide)) (by rfl) g__law_choice F__law_choice.kp b__law_choice .nil pass0 (pa_cons (pv 0) (pa_cons (pe_lstF (pa_cons pe_bl (pa_cons pe_bl (pa_cons pe_int (pa_cons (pe_un un_neg pe_int) (pa_cons pe_non (pa_cons pe_str (pa_cons pe_str (pa_cons (pe_tup (pa_cons pe_int pa_nil)) (pa_cons (pe_lstF pa_nil) (pa_cons (pe_op op_pow pe_int pe_int) (pa_cons pe_dnewK pa_nil)))))))))))) pa_nil))))
      (pss_one (ps_ret (pe_callTy call_tuple_of (by rfl) T.n_tuple (by decide +kernel) (pa_cons (pe_op op_cat (pe_op op_cat (pe_slice sl_list (pv 1) po_none (po_some (pv 3))) (pe_lstF (pa_cons (pv 4) pa_nil))) (pe_slice sl_list (pv 1) (po_some (pv 3)) po_none)) pa_nil)))))) pss_nil)
      (pss_one (ps_ret (pe_call G__law_choice (hr.mono (by decide)) (by rfl) g__law_choice F__law_choice.kp b__law_choice .nil pass0 (pa_cons (pv 0) (pa_cons (pe_lstF (pa_cons pe_non (pa_cons pe_bl (pa_cons pe_int (pa_cons pe_str (pa_cons pe_str (pa_cons pe_dnewK (pa_cons (pe_lstF pa_nil) (pa_cons (pe_tup (pa_cons (pe_tup (pa_cons pe_int (pa_cons pe_int pa_nil))) pa_nil)) (pa_cons (pe_tup (pa_cons (pe_lstF (pa_cons pe_int pa_nil)) pa_nil)) (pa_cons (pe_un un_neg pe_int) (pa_cons (pe_disp (pps_cons pe_str pe_int pps_nil) (by rfl) (by rfl) (fun z => by cases z) (by decide)) (pa_cons (pe_tup (pa_cons (pe_tup pa_nil) pa_nil)) pa_nil))))))))))))) pa_nil))))))))), ?_⟩
    refine ⟨_, rfl, r, rfl, hR, fun p0 is H1 g1 b1 sm len n0 a0 => ?_⟩
    refine ⟨p0, _, rfl, .inr (SqT.of a0), fun L hL fL => ?_⟩
    have aL : upd H1 L (.lst (is.map V.int)) L = some (.lst (is.map V.int)) := upd_same
    have gL := g1.new (o := .lst (is.map V.int)) hL
    have bL := b1.trans (But.of (r := r) (same_new (o := .lst (is.map V.int)) hL))
    have nL := noR g1 hL
    have n1 := gone g1 b1 hL
    generalize upd H1 L (.lst (is.map V.int)) = H2 at aL gL bL ⊢
    refine ⟨_, rfl, r, 4, rfl, gL, by decide, by decide, fun way H3 w0 w1 g3 b3 => ⟨_, _, rfl, ?_⟩⟩
    have aL := b3 _ _ nL aL
    have B3 := bL.trans b3
    refine ⟨_, rfl, rfl, _, rfl, ite2 (fun e => ?_) (fun e => ?_)⟩
    · refine ⟨_, rfl, L, _, rfl, .inl ⟨SqL.of aL, fun l hl => ?_⟩⟩
      have bl := B3.trans (But.of (r := r) (same_new (o := .tup (is.map V.int)) hl))
      exact q _ (.tuple (is.map PyData.int)) _ (g3.new hl) bl (.tup (news_at (gone g3 B3 hl) upd_same) (ints_dt is)) (thing_tup (by rw [List.length_map]; omega) (ints_els sm))
    refine ⟨_, rfl, rfl, _, rfl, ite2 (fun e => ?_) (fun e => ?_)⟩
    · exact ⟨_, rfl, q _ (.list (is.map PyData.int)) _ g3 B3 (.lst (news_at n1 aL) (fun _ => fL) (ints_dt is)) (thing_row sm (by omega))⟩
    refine ⟨_, rfl, rfl, _, rfl, ite2 (fun e => ?_) (fun e => ?_)⟩
    · skip
      refine ⟨_, rfl, _, rfl, L, _, rfl, .inl (SqL.of aL), _, _, rfl, rfl, r, _, rfl, g3, ?_, ?_, fun at_ H4 x0 x1 g4 b4 => ?_⟩
      · rw [List.length_map]; omega
      · rw [List.length_map]; omega
      have aL := b4 _ _ nL aL
      have B4 := B3.trans b4
      refine ⟨_, rfl, _, rfl, ?_⟩
      refine ⟨(by show 1 ≤ sizeLine; decide), fun p1 h1 => ?_⟩
      have a1 : upd H4 p1 (.tup [.int 0]) p1 = some (.tup [.int 0]) := upd_same
      have s1 : Same H4 (upd H4 p1 (.tup [.int 0])) := same_new h1
      generalize upd H4 p1 (.tup [.int 0]) = K1 at a1 s1 ⊢
      refine ⟨Nat.zero_le _, fun p2 h2 f2 => ?_⟩
      have a2 : upd K1 p2 (.lst []) p2 = some (.lst []) := upd_same
      have s2 : Same K1 (upd K1 p2 (.lst [])) := same_new h2
      generalize upd K1 p2 (.lst []) = K2 at a2 s2 ⊢
      refine ⟨_, _, rfl, rfl, ⟨by decide, by decide, by decide⟩, ?_⟩
      refine fun p3 h3 => ?_
      have a3 : upd K2 p3 (.dK []) p3 = some (.dK []) := upd_same
      have s3 : Same K2 (upd K2 p3 (.dK [])) := same_new h3
      generalize upd K2 p3 (.dK []) = K3 at a3 s3 ⊢
      refine ⟨(by show 11 ≤ sizeLine; decide), fun p h f => ?_⟩
      have s13 := s1.trans (s2.trans s3)
      have npr := noR (g4.same s13) h
      have c1 := gone g4 B4 h1
      have c2 := gone (g4.same s1) (B4.trans (But.of s1)) h2
      have c3 := gone (g4.same (s1.trans s2)) (B4.trans (But.of (s1.trans s2))) h3
      have r1 := noR g4 h1
      have r2 := noR (g4.same s1) h2
      have r3 := noR (g4.same (s1.trans s2)) h3
      refine ⟨r, p, _, rfl, (g4.same s13).new h, upd_same, npr, List.cons_ne_nil _ _, (by show 11 ≤ 1000; decide), fun v H5 mv g5 b5 => ?_⟩
      have sp : Same K3 (upd K3 p (.lst [.bl true, .bl false, .int 2, .int (-2), .non, .str "0", .str "-", .ref p1, .ref p2, .int (10 ^ (29 : Int).toNat), .ref p3])) := same_new h
      have B5 : But r H H5 := ((B4.trans (But.of s13)).trans (But.of sp)).trans b5
      have aL := b5 _ _ nL (sp _ _ (s13 _ _ aL))
      have o1 := news_at c1 (b5 _ _ r1 (sp _ _ (s3 _ _ (s2 _ _ a1))))
      have o2 := news_at c2 (b5 _ _ r2 (sp _ _ (s3 _ _ a2)))
      have o3 := news_at c3 (b5 _ _ r3 (sp _ _ a3))
      have dv : ∃ d, Dt true (news H H5) v d ∧ El d := by
        have mv : v ∈ [V.bl true, .bl false, .int 2, .int (-2), .non, .str "0", .str "-", .ref p1, .ref p2, .int (10 ^ (29 : Int).toNat), .ref p3] := mv
        simp only [List.mem_cons, List.not_mem_nil, or_false] at mv
        rcases mv with rfl | rfl | rfl | rfl | rfl | rfl | rfl | rfl | rfl | rfl | rfl
        · exact ⟨_, .bl _, el_dec (by decide +kernel)⟩
        · exact ⟨_, .bl _, el_dec (by decide +kernel)⟩
        · exact ⟨_, .int _, el_dec (by decide +kernel)⟩
        · exact ⟨_, .int _, el_dec (by decide +kernel)⟩
        · exact ⟨_, .non, el_dec (by decide +kernel)⟩
        · exact ⟨_, .str _, el_dec (by decide +kernel)⟩
        · exact ⟨_, .str _, el_dec (by decide +kernel)⟩
        · exact ⟨_, .tup o1 (.cons (.int 0) .nil), el_dec (by decide +kernel)⟩
        · exact ⟨_, .lst o2 (fun _ => f2) .nil, el_dec (by decide +kernel)⟩
        · exact ⟨_, .int _, el_dec (by decide +kernel)⟩
        · exact ⟨_, .dict (kds := []) o3 .nil, el_dec (by decide +kernel)⟩
      obtain ⟨d, dv, ed⟩ := dv
      obtain ⟨j1, e1, l1, m1⟩ := cut_ints is none (some at_)
      obtain ⟨j2, e2, l2, m2⟩ := cut_ints is (some at_) none
      refine ⟨_, rfl, _, rfl, at_, rfl, L, _, rfl, SqL.of aL, fun q1 hq1 => ?_⟩
      rw [e1]
      have t1 : Same H5 (upd H5 q1 (.lst (j1.map V.int))) := same_new hq1
      have u1 : upd H5 q1 (.lst (j1.map V.int)) q1 = some (.lst (j1.map V.int)) := upd_same
      generalize upd H5 q1 (.lst (j1.map V.int)) = G1 at t1 u1 ⊢
      refine ⟨_, rfl, (by show 1 ≤ sizeLine; decide), fun q2 hq2 _ => ?_⟩
      have t2 : Same G1 (upd G1 q2 (.lst [v])) := same_new hq2
      have u2 : upd G1 q2 (.lst [v]) q2 = some (.lst [v]) := upd_same
      generalize upd G1 q2 (.lst [v]) = G2 at t2 u2 ⊢
      refine ⟨q1, q2, _, _, rfl, rfl, t2 _ _ u1, u2, ?_, fun q3 hq3 => ?_⟩
      · rw [List.length_map, sizeLine_eq]
        show j1.length + 1 ≤ _
        omega
      have t3 : Same G2 (upd G2 q3 (.lst (j1.map V.int ++ [v]))) := same_new hq3
      have u3 : upd G2 q3 (.lst (j1.map V.int ++ [v])) q3 = some (.lst (j1.map V.int ++ [v])) := upd_same
      generalize upd G2 q3 (.lst (j1.map V.int ++ [v])) = G3 at t3 u3 ⊢
      refine ⟨_, rfl, _, rfl, at_, rfl, L, _, rfl, SqL.of (t3 _ _ (t2 _ _ (t1 _ _ aL))), fun q4 hq4 => ?_⟩
      rw [e2]
      have t4 : Same G3 (upd G3 q4 (.lst (j2.map V.int))) := same_new hq4
      have u4 : upd G3 q4 (.lst (j2.map V.int)) q4 = some (.lst (j2.map V.int)) := upd_same
      generalize upd G3 q4 (.lst (j2.map V.int)) = G4 at t4 u4 ⊢
      refine ⟨q3, q4, _, _, rfl, rfl, t4 _ _ u3, u4, ?_, fun q5 hq5 => ?_⟩
      · rw [List.length_append, List.length_map, List.length_map, sizeLine_eq]
        show j1.length + 1 + j2.length ≤ _
        omega
      have t5 : Same G4 (upd G4 q5 (.lst (j1.map V.int ++ [v] ++ j2.map V.int))) := same_new hq5
      have u5 : upd G4 q5 (.lst (j1.map V.int ++ [v] ++ j2.map V.int)) q5 = some (.lst (j1.map V.int ++ [v] ++ j2.map V.int)) := upd_same
      generalize upd G4 q5 (.lst (j1.map V.int ++ [v] ++ j2.map V.int)) = G5 at t5 u5 ⊢
      refine ⟨q5, _, rfl, .inl ⟨SqL.of u5, fun l hl => ?_⟩⟩
      have t6 : Same G5 (upd G5 l (.tup (j1.map V.int ++ [v] ++ j2.map V.int))) := same_new hl
      have T6 := t1.trans (t2.trans (t3.trans (t4.trans (t5.trans t6))))
      have g6 := g5.same (t1.trans (t2.trans (t3.trans (t4.trans t5))))
      have B6 := B5.trans (But.of (r := r) (t1.trans (t2.trans (t3.trans (t4.trans t5)))))
      refine q _ (.tuple (j1.map PyData.int ++ [d] ++ j2.map PyData.int)) _ (g6.new hl) (B6.trans (But.of t6)) (.tup (news_at (gone g6 B6 hl) upd_same) ?_) (thing_tup ?_ fun x hx => ?_)
      · exact DtAll.append (DtAll.append (ints_dt j1) (.cons (dv.same (news_but (But.of (r := r) T6) there)) .nil)) (ints_dt j2)
      · rw [List.length_append, List.length_append, List.length_map, List.length_map]
        show j1.length + 1 + j2.length ≤ 21
        omega
      · rcases List.mem_append.mp hx with hx | hx
        · rcases List.mem_append.mp hx with hx | hx
          · exact ints_els (fun i hi => sm i (m1 i hi)) x hx
          · rw [List.mem_singleton.mp hx]
            exact ed
        · exact ints_els (fun i hi => sm i (m2 i hi)) x hx
    · skip
      refine ⟨_, rfl, ?_⟩
      refine fun p1 h1 => ?_
      have a1 : upd H3 p1 (.dK []) p1 = some (.dK []) := upd_same
      have s1 : Same H3 (upd H3 p1 (.dK [])) := same_new h1
      generalize upd H3 p1 (.dK []) = K1 at a1 s1 ⊢
      refine ⟨Nat.zero_le _, fun p2 h2 f2 => ?_⟩
      have a2 : upd K1 p2 (.lst []) p2 = some (.lst []) := upd_same
      have s2 : Same K1 (upd K1 p2 (.lst [])) := same_new h2
      generalize upd K1 p2 (.lst []) = K2 at a2 s2 ⊢
      refine ⟨(by show 2 ≤ sizeLine; decide), fun p3 h3 => ?_⟩
      have a3 : upd K2 p3 (.tup [.int 0, .int 1]) p3 = some (.tup [.int 0, .int 1]) := upd_same
      have s3 : Same K2 (upd K2 p3 (.tup [.int 0, .int 1])) := same_new h3
      generalize upd K2 p3 (.tup [.int 0, .int 1]) = K3 at a3 s3 ⊢
      refine ⟨(by show 1 ≤ sizeLine; decide), fun p4 h4 => ?_⟩
      have a4 : upd K3 p4 (.tup [.ref p3]) p4 = some (.tup [.ref p3]) := upd_same
      have s4 : Same K3 (upd K3 p4 (.tup [.ref p3])) := same_new h4
      generalize upd K3 p4 (.tup [.ref p3]) = K4 at a4 s4 ⊢
      refine ⟨(by show 1 ≤ sizeLine; decide), fun p5 h5 f5 => ?_⟩
      have a5 : upd K4 p5 (.lst [.int 0]) p5 = some (.lst [.int 0]) := upd_same
      have s5 : Same K4 (upd K4 p5 (.lst [.int 0])) := same_new h5
      generalize upd K4 p5 (.lst [.int 0]) = K5 at a5 s5 ⊢
      refine ⟨(by show 1 ≤ sizeLine; decide), fun p6 h6 => ?_⟩
      have a6 : upd K5 p6 (.tup [.ref p5]) p6 = some (.tup [.ref p5]) := upd_same
      have s6 : Same K5 (upd K5 p6 (.tup [.ref p5])) := same_new h6
      generalize upd K5 p6 (.tup [.ref p5]) = K6 at a6 s6 ⊢
      refine ⟨_, rfl, ?_⟩
      refine fun p7 h7 => ⟨upd_same, [(Sum.inr "a", .int 0)], rfl, by decide, ?_⟩
      have a7 : upd (upd K6 p7 (.dK [])) p7 (.dK (mergeK [] [(Sum.inr "a", .int 0)])) p7 = some (.dK [(Sum.inr "a", .int 0)]) := upd_same
      have s7 : Same K6 (upd (upd K6 p7 (.dK [])) p7 (.dK (mergeK [] [(Sum.inr "a", .int 0)]))) := by
        rw [upd_upd]
        exact same_new h7
      generalize upd (upd K6 p7 (.dK [])) p7 (.dK (mergeK [] [(Sum.inr "a", .int 0)])) = K7 at a7 s7 ⊢
      refine ⟨Nat.zero_le _, fun p8 h8 => ?_⟩
      have a8 : upd K7 p8 (.tup []) p8 = some (.tup []) := upd_same
      have s8 : Same K7 (upd K7 p8 (.tup [])) := same_new h8
      generalize upd K7 p8 (.tup []) = K8 at a8 s8 ⊢
      refine ⟨(by show 1 ≤ sizeLine; decide), fun p9 h9 => ?_⟩
      have a9 : upd K8 p9 (.tup [.ref p8]) p9 = some (.tup [.ref p8]) := upd_same
      have s9 : Same K8 (upd K8 p9 (.tup [.ref p8])) := same_new h9
      generalize upd K8 p9 (.tup [.ref p8]) = K9 at a9 s9 ⊢
      refine ⟨(by show 12 ≤ sizeLine; decide), fun p h f => ?_⟩
      have w1 := s1
      have w2 := w1.trans s2
      have w3 := w2.trans s3
      have w4 := w3.trans s4
      have w5 := w4.trans s5
      have w6 := w5.trans s6
      have w7 := w6.trans s7
      have w8 := w7.trans s8
      have w9 := w8.trans s9
      have y8 := s9
      have y7 := s8.trans y8
      have y6 := s7.trans y7
      have y5 := s6.trans y6
      have y4 := s5.trans y5
      have y3 := s4.trans y4
      have y2 := s3.trans y3
      have y1 := s2.trans y2
      have npr := noR (g3.same w9) h
      refine ⟨r, p, _, rfl, (g3.same w9).new h, upd_same, npr, List.cons_ne_nil _ _, (by show 12 ≤ 1000; decide), fun v H5 mv g5 b5 => ?_⟩
      have sp : ∀ u, Same K9 (upd K9 p u) := fun u => same_new h
      have B5 : But r H H5 := ((B3.trans (But.of w9)).trans (But.of (sp _))).trans b5
      have up : ∀ {Hk : Hp}, Same H3 Hk → ∀ {pk : Addr} {o : HO}, Hk pk = none → ∀ {Hm : Hp}, Hm pk = some o → Same Hm K9 → news H H5 pk = some o := fun {Hk} h0 {pk o} hn {Hm} hm hs =>
        news_at (gone (g3.same h0) (B3.trans (But.of h0)) hn) (b5 _ _ (noR (g3.same h0) hn) (sp _ _ _ (hs _ _ hm)))
      have o1 := up (Same.refl _) h1 a1 y1
      have o2 := up w1 h2 a2 y2
      have o3 := up w2 h3 a3 y3
      have o4 := up w3 h4 a4 y4
      have o5 := up w4 h5 a5 y5
      have o6 := up w5 h6 a6 y6
      have o7 := up w6 h7 a7 y7
      have o8 := up w7 h8 a8 y8
      have o9 := up w8 h9 a9 (Same.refl _)
      have fin : ∀ d, Dt true (news H H5) v d → Tng d → Q v H5 := fun d hd hn => q v d H5 g5 B5 hd hn
      simp only [List.mem_cons, List.not_mem_nil, or_false] at mv
      rcases mv with rfl | rfl | rfl | rfl | rfl | rfl | rfl | rfl | rfl | rfl | rfl | rfl
      · exact fin _ .non (thing_dec (by decide +kernel) rfl)
      · exact fin _ (.bl _) (thing_dec (by decide +kernel) rfl)
      · exact fin _ (.int _) (thing_dec (by decide +kernel) rfl)
      · exact fin _ (.str _) (thing_dec (by decide +kernel) (by decide +kernel))
      · exact fin _ (.str _) (thing_dec (by decide +kernel) (by decide +kernel))
      · exact fin _ (.dict (kds := []) o1 .nil) (thing_dec (by decide +kernel) rfl)
      · exact fin _ (.lst o2 (fun _ => f2) .nil) (thing_dec (by decide +kernel) rfl)
      · exact fin _ (.tup o4 (.cons (.tup o3 (.cons (.int 0) (.cons (.int 1) .nil))) .nil)) (thing_dec (by decide +kernel) (by decide +kernel))
      · exact fin _ (.tup o6 (.cons (.lst o5 (fun _ => f5) (.cons (.int 0) .nil)) .nil)) (thing_dec (by decide +kernel) (by decide +kernel))
      · exact fin _ (.int _) (thing_dec (by decide +kernel) rfl)
      · exact fin _ (.dict (kds := [(Sum.inr "a", .int 0)]) o7 (.cons ⟨rfl, rfl⟩ .nil)) (thing_dec (by decide +kernel) rfl)
      · exact fin _ (.tup o9 (.cons (.tup o8 .nil) .nil)) (thing_dec (by decide +kernel) (by decide +kernel))
end
end K13

set_option Elab.async false
set_option linter.all false
set_option maxRecDepth 100000
set_option maxHeartbeats 8000000
namespace K13
open PySem PySem.Spec L2 PSG
open PyProof.Rows (IntsAre AllBare)
abbrev s__law_string : Stmt := topS 26
theorem sc__law_string : FnScope ["_law_rng_here", "_law_signs_here", "_law_made", "_law_k"] ["_law_rng_here"] (defScope s__law_string) := ⟨rfl, rfl, rfl, by decide +kernel, rfl, by decide +kernel, by decide +kernel⟩
abbrev s__law_is_vector : Stmt := topS 25
theorem sc__law_is_vector : FnScope ["_law_thing_here", "_law_x"] ["_law_thing_here"] (defScope s__law_is_vector) := ⟨rfl, rfl, rfl, by decide +kernel, rfl, by decide +kernel, by decide +kernel⟩
abbrev s__law_due_text : Stmt := topS 31
theorem sc__law_due_text : FnScope ["_law_row", "_law_x"] ["_law_row"] (defScope s__law_due_text) := ⟨rfl, rfl, rfl, by decide +kernel, rfl, by decide +kernel, by decide +kernel⟩

def nine : Str := "-0+ 1a<>,"
theorem nine_shown : ∀ c ∈ nine.cps.toList, (c < 16 ^ 8 ∧ El (.str ⟨#[c]⟩)) ∧ ∀ q, q = 34 ∨ q = 39 → ∀ z ∈ Builtin.Str.reprChar q c, z < 0x110000 := by
  have h : (nine.cps.toList.all fun c => decide (c < 16 ^ 8) && ((PyData.str ⟨#[c]⟩).showable && decide ((PyData.str ⟨#[c]⟩).shown.length ≤ 40) && decide ((PyData.str ⟨#[c]⟩).depth ≤ 4) && PyData.strOk (PyData.str ⟨#[c]⟩).shown) && [34, 39].all fun q => (Builtin.Str.reprChar q c).all fun z => decide (z < 0x110000)) = true := by decide +kernel
  intro c hc
  have z := List.all_eq_true.mp h c hc
  rw [Bool.and_eq_true, Bool.and_eq_true] at z
  refine ⟨⟨of_decide_eq_true z.1.1, el_dec z.1.2⟩, fun q hq y hy => ?_⟩
  have h2 := List.all_eq_true.mp z.2 q (by rcases hq with rfl | rfl <;> simp)
  exact of_decide_eq_true (List.all_eq_true.mp h2 y hy)
theorem fold_small (q : Nat) : ∀ (l : List Nat) (acc : Array Nat), (∀ c ∈ l, ∀ z ∈ Builtin.Str.reprChar q c, z < 0x110000) → (∀ z ∈ acc, z < 0x110000) → ∀ z ∈ l.foldl (fun o c => o ++ (Builtin.Str.reprChar q c).toArray) acc, z < 0x110000
  | [], _, _, ha => ha
  | c :: l, acc, hl, ha => fold_small q l _ (fun d hd => hl d (List.mem_cons_of_mem _ hd)) fun z hz => by
    rcases Array.mem_append.mp hz with hz | hz
    · exact ha z hz
    · exact hl c List.mem_cons_self z (by simpa using hz)
/-- a text of few signs of the menu -/
structure Txt (cs : List Nat) : Prop where
  abc : ∀ c ∈ cs, c ∈ nine.cps.toList
  few : cs.length ≤ 10
theorem txt_ok {cs : List Nat} (h : Txt cs) : PyData.strOk (PyData.str ⟨cs.toArray⟩).shown = true ∧ (PyData.str ⟨cs.toArray⟩).shown.length ≤ 102 := by
  constructor
  · have hq : reprQuote ⟨cs.toArray⟩ = 34 ∨ reprQuote ⟨cs.toArray⟩ = 39 := by
      unfold reprQuote
      split
      · exact .inl rfl
      · exact .inr rfl
    show PyData.strOk (reprText ⟨cs.toArray⟩) = true
    unfold PyData.strOk reprText
    rw [Array.all_eq_true_iff_forall_mem]
    intro z hz
    refine decide_eq_true ?_
    rcases Array.mem_push.mp hz with hz | hz
    · rw [← Array.foldl_toList] at hz
      have first : ∀ y ∈ (#[reprQuote ⟨cs.toArray⟩] : Array Nat), y < 0x110000 := fun y hy => by
        have e : y = reprQuote ⟨cs.toArray⟩ := by simpa using hy
        omega
      exact fold_small _ _ _ (fun c hc => (nine_shown c (h.abc c (by simpa using hc))).2 _ hq) first z hz
    · omega
  · have l := PySem.StrLaws.reprText_len ⟨cs.toArray⟩ fun c hc => (nine_shown c (h.abc c (by simpa using hc))).1.1
    have e : (⟨cs.toArray⟩ : Str).length = cs.length := by simp [Str.length]
    have f := h.few
    show (reprText ⟨cs.toArray⟩).length ≤ 102
    omega
theorem thing_txt {cs : List Nat} (h : Txt cs) : Tng (.str ⟨cs.toArray⟩) := by
  obtain ⟨h1, h2⟩ := txt_ok h
  refine ⟨⟨rfl, by omega, by simp [PyData.depth], h1⟩, ⟨fun ds e => (nomatch e), fun x e => ?_⟩⟩
  cases e
  have f := h.few
  have e : (⟨cs.toArray⟩ : Str).length = cs.length := by simp [Str.length]
  omega
theorem thing_ltxt {cs : List Nat} (h : Txt cs) : Tng (.list [.str ⟨cs.toArray⟩]) := by
  obtain ⟨h1, h2⟩ := txt_ok h
  refine ⟨⟨rfl, ?_, by simp [PyData.depth, PyData.depthAll], ok_list fun t ht => ?_⟩, ⟨fun ds e => (nomatch e), fun x e => (nomatch e)⟩⟩
  · have l := listText_len_le [(PyData.str ⟨cs.toArray⟩).shown]
    simp only [List.map_cons, List.map_nil, List.sum_cons, List.sum_nil, List.length_cons, List.length_nil] at l
    show (listText [(PyData.str ⟨cs.toArray⟩).shown]).length ≤ 1000
    omega
  · have e : t = (PyData.str ⟨cs.toArray⟩).shown := by simpa [PyData.shownAll] using ht
    rw [e]
    exact h1
theorem strs_dt {far : Bool} {H : Hp} : ∀ cs : List Nat, DtAll far H (cs.map fun c => V.str ⟨#[c]⟩) (cs.map fun c => PyData.str ⟨#[c]⟩)
  | [] => .nil
  | c :: cs => .cons (.str _) (strs_dt cs)
theorem thing_ttxt {cs : List Nat} (h : Txt cs) : Tng (.tuple (cs.map fun c => PyData.str ⟨#[c]⟩)) := thing_tup (by rw [List.length_map]; have f := h.few; omega) fun d hd => by
  obtain ⟨c, hc, rfl⟩ := List.mem_map.mp hd
  exact (nine_shown c (h.abc c hc)).1.2
theorem three_nine : ∀ c ∈ three.cps.toList, c ∈ nine.cps.toList := by decide +kernel
section
variable {P : Program} {w : World} {K : PySem.W.Frag} {mg : Str → Option Value} {base : Heap}
set_option maxHeartbeats 40000000 in
theorem ok_string {f fD fC : Addr} {fd fdD fdC : FuncData} (F : Fun K "_law_string" "_law_string" s__law_string f fd) (T : Blt mg) (F__law_draw : Fun K "_law_draw" "_law_draw" s__law_draw fD fdD) (b__law_draw : Binds K fdD ["_law_rng_here", "_law_many"] [])
    (g__law_draw : mg "_law_draw" = some (.ref fD)) (F__law_choice : Fun K "_law_choice" "_law_choice" s__law_choice fC fdC) (b__law_choice : Binds K fdC ["_law_rng_here", "_law_options"] []) (g__law_choice : mg "_law_choice" = some (.ref fC)) :
    FnOk P w K mg base CX0 3 f fd ["_law_rng_here"] spThing := by
  have sc := sc__law_string
  have G__law_draw : FnOk P w K mg base CX0 1 fD fdD _ spDraw := ok_draw F__law_draw T
  have G__law_choice : FnOk P w K mg base CX0 2 fC fdC ["_law_rng_here", "_law_options"] (spChoice K) := ok_choice F__law_choice T F__law_draw b__law_draw g__law_draw
  have G__law_choiceS : FnOk P w K mg base CX0 2 fC fdC ["_law_rng_here", "_law_options"] spChoiceS := ok_choiceS F__law_choice T F__law_draw b__law_draw g__law_draw
  refine F.ok sc (fun vs H Q E h => ?_) (fun cdv A outer s H vs Q E hr h => ?_)
  · obtain ⟨r, rfl, _⟩ := h
    rfl
  · obtain ⟨r, rfl, hR, q⟩ := h
    have there := hR.some
    have noR : ∀ {G : Hp} {p : Addr}, Rg G r → G p = none → p ≠ r := fun g h z => by
      obtain ⟨o, e⟩ := g.some
      rw [z, e] at h
      cases h
    have gone : ∀ {G : Hp} {p : Addr}, Rg G r → But r H G → G p = none → H p = none := fun {G p} g b h => by
      cases e : H p with
      | none => rfl
      | some u =>
        rw [b p u (noR g h) e] at h
        cases h
    refine ⟨_, (pss_cons (ps_set (i := 1) sc.nd rfl (.inr rfl) (pe_ix ix_list (pe_lstF (pa_cons pe_str (pa_cons pe_str (pa_cons pe_str (pa_cons pe_str pa_nil))))) (pe_call G__law_draw (hr.mono (by decide)) (by rfl) g__law_draw F__law_draw.kp b__law_draw .nil pass0 (pa_cons (pv 0) (pa_cons pe_int pa_nil))) (fun _ _ => rfl)))
      (pss_cons (ps_set (i := 2) sc.nd rfl (.inl rfl) (pe_join pe_str (pe_lc (own := [("_law_k", 3)]) (g := gName 3) (tt := tYes) (by rfl) sc.nd (pi_range1 (by rfl) T.n_range (pa_cons (pe_call G__law_draw (hr.mono (by decide)) (by rfl) g__law_draw F__law_draw.kp b__law_draw .nil pass0 (pa_cons (pv 0) (pa_cons pe_int pa_nil))) pa_nil)) (blkOk_by (own := [("_law_k", 3)]) (N := ["_law_rng_here", "_law_signs_here", "_law_made", "_law_k"]) (sc := defScope s__law_string) (by decide +kernel)) (fun _ _ _ _ _ => pg_name (i := 3) sc.nd rfl (Or.inl rfl)) (fun _ _ _ _ _ => pts_nil) (fun _ _ _ _ _ => (pe_call G__law_choiceS (hr.mono (by decide)) (by rfl) g__law_choice F__law_choice.kp b__law_choice .nil pass0 (pa_cons (pv 0) (pa_cons (pv 1) pa_nil)))))))
      (pss_one (ps_ret (pe_call G__law_choice (hr.mono (by decide)) (by rfl) g__law_choice F__law_choice.kp b__law_choice .nil pass0 (pa_cons (pv 0) (pa_cons (pe_lstF (pa_cons (pv 2) (pa_cons (pv 2) (pa_cons (pv 2) (pa_cons (pv 2) (pa_cons (pv 2) (pa_cons pe_non (pa_cons pe_int (pa_cons pe_bl (pa_cons (pe_lstF (pa_cons (pv 2) pa_nil)) (pa_cons (pe_tup pa_nil) (pa_cons pe_dnewK (pa_cons (pe_callTy (call_tupleS rfl) (by rfl) T.n_tuple (by decide +kernel) (pa_cons (pv 2) pa_nil)) pa_nil))))))))))))) pa_nil))))))), ?_⟩
    refine ⟨(by show 4 ≤ sizeLine; decide), fun p0 hp0 _ => ?_⟩
    have t0 : Same H (upd H p0 (.lst [.str three, .str three, .str three, .str nine])) := same_new hp0
    have u0 : upd H p0 (.lst [.str three, .str three, .str three, .str nine]) p0 = some (.lst [.str three, .str three, .str three, .str nine]) := upd_same
    refine ⟨_, rfl, r, 4, rfl, hR.new hp0, by decide, by decide, fun c H1 c0 c1 g1 b1 => ?_⟩
    have u1 := b1 _ _ (noR hR hp0) u0
    have B1 := (But.of (r := r) t0).trans b1
    have pick : ∃ z, atI [V.str three, .str three, .str three, .str nine] c = some (.str z) ∧ (∀ c ∈ z.cps.toList, c ∈ nine.cps.toList) ∧ 0 < z.length ∧ z.length ≤ 1000 := by
      have e : c = 0 ∨ c = 1 ∨ c = 2 ∨ c = 3 := by omega
      rcases e with rfl | rfl | rfl | rfl
      · exact ⟨three, atI_nat (j := 0) rfl, three_nine, by decide +kernel, by decide +kernel⟩
      · exact ⟨three, atI_nat (j := 1) rfl, three_nine, by decide +kernel, by decide +kernel⟩
      · exact ⟨three, atI_nat (j := 2) rfl, three_nine, by decide +kernel, by decide +kernel⟩
      · exact ⟨nine, atI_nat (j := 3) rfl, fun _ h => h, by decide +kernel, by decide +kernel⟩
    obtain ⟨z, ez, hz, l0, l1⟩ := pick
    refine ⟨p0, _, c, .str z, rfl, rfl, SqL.of u1, ez, ?_⟩
    refine ⟨⟨_, rfl⟩, _, rfl, r, 11, rfl, g1, by decide, by decide, fun m H4 m0 m1 g4 b4 => ⟨m, rfl, by omega, by omega, fun D hD => ?_⟩⟩
    have nDr : D ≠ r := noR g4 hD
    refine lc_range (lo := 0) (n := m.toNat) (fun j G => Rg G r ∧ (∀ b o, b ≠ r → b ≠ D → upd H4 D (.lst []) b = some o → G b = some o) ∧ ∃ cs : List Nat, G D = some (.lst (cs.map fun c => V.str ⟨#[c]⟩)) ∧ cs.length = j ∧ ∀ c ∈ cs, c ∈ nine.cps.toList)
      ⟨g4.new hD, fun b o _ _ e => e, [], upd_same, rfl, fun y hy => nomatch hy⟩ ?_ ?_
    · rintro j G hj ⟨gR, keep, cs, aD, ly, oy⟩
      refine ⟨rfl, ?_⟩
      refine ⟨_, rfl, _, rfl, r, z, rfl, gR, l0, l1, fun c' H5 mc g5 b5 => ?_⟩
      have aD5 := b5 _ _ nDr aD
      refine ⟨_, aD5, by rw [List.length_map, sizeLine_eq]; omega, ?_, fun b o n1 n2 e => (upd_ne n2).trans (b5 _ _ n1 (keep _ _ n1 n2 e)), cs ++ [c'], ?_, by rw [List.length_append, ly]; rfl, fun y hy => ?_⟩
      · obtain ⟨x', y', e, z'⟩ := g5
        exact ⟨x', y', (upd_ne (Ne.symm nDr)).trans e, z'⟩
      · rw [upd_same, List.map_append]
        rfl
      · rcases List.mem_append.mp hy with hy | hy
        · exact oy y hy
        · rw [List.mem_singleton.mp hy]
          exact hz c' mc
    · rintro G ⟨gR, keep, cs, aD, ly, oy⟩
      have tx : Txt cs := ⟨oy, by omega⟩
      have BG : But r H G := fun b o n e => by
        have e2 := b4 _ _ n (B1 _ _ n e)
        exact keep b o n (ne_of_none e2 hD) ((upd_ne (ne_of_none e2 hD)).trans e2)
      have em : (cs.map fun c => (⟨#[c]⟩ : Str)).map V.str = cs.map fun c => V.str ⟨#[c]⟩ := by rw [List.map_map]; rfl
      refine ⟨"", D, cs.map fun c => (⟨#[c]⟩ : Str), rfl, rfl, .inl (by rw [em]; exact SqL.of aD), ?_, ?_⟩
      · have one : ∀ l : List Nat, ((l.map fun c => (⟨#[c]⟩ : Str)).map (·.length)).sum = l.length := fun l => by
          induction l with
          | nil => rfl
          | cons c l ih =>
            rw [List.map_cons, List.map_cons, List.sum_cons, ih, List.length_cons]
            show 1 + l.length = _
            omega
        have e0 : ("" : Str).length = 0 := rfl
        rw [one, e0]
        omega
      · rw [TL.join_eq, join_ones]
        refine ⟨_, rfl, _, rfl, _, rfl, _, rfl, _, rfl, _, rfl, _, rfl, (by show 1 ≤ sizeLine; decide), fun p1 h1 f1 => ?_⟩
        have a1 : upd G p1 (.lst [.str ⟨cs.toArray⟩]) p1 = some (.lst [.str ⟨cs.toArray⟩]) := upd_same
        have s1 : Same G (upd G p1 (.lst [.str ⟨cs.toArray⟩])) := same_new h1
        generalize upd G p1 (.lst [.str ⟨cs.toArray⟩]) = K1 at a1 s1 ⊢
        refine ⟨Nat.zero_le _, fun p2 h2 => ?_⟩
        have a2 : upd K1 p2 (.tup []) p2 = some (.tup []) := upd_same
        have s2 : Same K1 (upd K1 p2 (.tup [])) := same_new h2
        generalize upd K1 p2 (.tup []) = K2 at a2 s2 ⊢
        refine fun p3 h3 => ?_
        have a3 : upd K2 p3 (.dK []) p3 = some (.dK []) := upd_same
        have s3 : Same K2 (upd K2 p3 (.dK [])) := same_new h3
        generalize upd K2 p3 (.dK []) = K3 at a3 s3 ⊢
        refine ⟨_, rfl, ⟨cs.toArray⟩, rfl, ?_, fun p4 h4 => ?_⟩
        · have e : (⟨cs.toArray⟩ : Str).length = cs.length := by simp [Str.length]
          have fw := tx.few
          omega
        have a4 : upd K3 p4 (.tup (cs.map fun c => V.str ⟨#[c]⟩)) p4 = some (.tup (cs.map fun c => V.str ⟨#[c]⟩)) := upd_same
        have s4 : Same K3 (upd K3 p4 (.tup (cs.map fun c => V.str ⟨#[c]⟩))) := same_new h4
        refine ⟨(by show 12 ≤ sizeLine; decide), fun p h f => ?_⟩
        have w1 := s1
        have w2 := w1.trans s2
        have w3 := w2.trans s3
        have w4 := w3.trans s4
        have npr := noR (gR.same w4) h
        refine ⟨r, p, _, rfl, (gR.same w4).new h, upd_same, npr, List.cons_ne_nil _ _, (by show 12 ≤ 1000; decide), fun v H5 mv g5 b5 => ?_⟩
        have sp : ∀ u, Same (upd K3 p4 (.tup (cs.map fun c => V.str ⟨#[c]⟩))) (upd (upd K3 p4 (.tup (cs.map fun c => V.str ⟨#[c]⟩))) p u) := fun u => same_new h
        have B5 : But r H H5 := ((BG.trans (But.of w4)).trans (But.of (sp _))).trans b5
        have up : ∀ {Hk : Hp}, Same G Hk → ∀ {pk : Addr} {o : HO}, Hk pk = none → ∀ {Hm : Hp}, Hm pk = some o → Same Hm (upd K3 p4 (.tup (cs.map fun c => V.str ⟨#[c]⟩))) → news H H5 pk = some o := fun {Hk} h0 {pk o} hn {Hm} hm hs =>
          news_at (gone (gR.same h0) (BG.trans (But.of h0)) hn) (b5 _ _ (noR (gR.same h0) hn) (sp _ _ _ (hs _ _ hm)))
        have o1 := up (Same.refl _) h1 a1 (s2.trans (s3.trans s4))
        have o2 := up w1 h2 a2 (s3.trans s4)
        have o3 := up w2 h3 a3 s4
        have o4 := up w3 h4 a4 (Same.refl _)
        have fin : ∀ d, Dt true (news H H5) v d → Tng d → Q v H5 := fun d hd hn => q v d H5 g5 B5 hd hn
        simp only [List.mem_cons, List.not_mem_nil, or_false] at mv
        rcases mv with rfl | rfl | rfl | rfl | rfl | rfl | rfl | rfl | rfl | rfl | rfl | rfl
        · exact fin _ (.str _) (thing_txt tx)
        · exact fin _ (.str _) (thing_txt tx)
        · exact fin _ (.str _) (thing_txt tx)
        · exact fin _ (.str _) (thing_txt tx)
        · exact fin _ (.str _) (thing_txt tx)
        · exact fin _ .non (thing_dec (by decide +kernel) rfl)
        · exact fin _ (.int _) (thing_dec (by decide +kernel) rfl)
        · exact fin _ (.bl _) (thing_dec (by decide +kernel) rfl)
        · exact fin _ (.lst o1 (fun _ => f1) (.cons (.str _) .nil)) (thing_ltxt tx)
        · exact fin _ (.tup o2 .nil) (thing_dec (by decide +kernel) (by decide +kernel))
        · exact fin _ (.dict (kds := []) o3 .nil) (thing_dec (by decide +kernel) rfl)
        · exact fin _ (.tup o4 (strs_dt cs)) (thing_ttxt tx)
/-- the law's own judgement of vectors -/
theorem ok_is_vec {f : Addr} {fd : FuncData} (F : Fun K "_law_is_vector" "_law_is_vector" s__law_is_vector f fd) (T : Blt mg) : FnOk P w K mg base CX0 1 f fd ["_law_thing_here"] spVec := by
  have sc := sc__law_is_vector
  refine F.ok sc (fun vs H Q E h => ?_) (fun cdv A outer s H vs Q E hr h => ?_)
  · obtain ⟨v, d, rfl, _⟩ := h
    rfl
  · obtain ⟨v, d, rfl, hd, fw, q⟩ := h
    refine ⟨_, (pss_cons (ps_if (pt_not (pt_val (pe_callB call_isi (by rfl) T.n_isinstance (by decide +kernel) (pa_cons (pv 0) (pa_cons (pe_bltn (v := .ty "tuple") (by rfl) T.n_tuple (by decide +kernel) rfl) pa_nil))))) (pss_one (ps_ret pe_bl)) pss_nil)
      (pss_one (ps_ret (pe_callB (cr_all rfl) (by rfl) T.n_all (by decide +kernel) (pa_cons (pe_lc (own := [("_law_x", 1)]) (g := gName 1) (tt := tYes) (by rfl) sc.nd (pi_tup (pv 0)) (blkOk_by (own := [("_law_x", 1)]) (N := ["_law_thing_here", "_law_x"]) (sc := defScope s__law_is_vector) (by decide +kernel)) (fun _ _ _ _ _ => pg_name (i := 1) sc.nd rfl (Or.inl rfl)) (fun _ _ _ _ _ => pts_nil) (fun _ _ _ _ _ => (pe_and (pe_callB (show CallR _ (.builtin "isinstance") (rIsi K) from call_isi) (by rfl) T.n_isinstance (by decide +kernel) (pa_cons (pv 1) (pa_cons (pe_bltn (v := .ty "int") (by rfl) T.n_int (by decide +kernel) rfl) pa_nil))) (pe_and (pe_not (pe_callB (show CallR _ (.builtin "isinstance") (rIsi K) from call_isi) (by rfl) T.n_isinstance (by decide +kernel) (pa_cons (pv 1) (pa_cons (pe_bltn (v := .ty "bool") (by rfl) T.n_bool (by decide +kernel) rfl) pa_nil)))) (pe_one (pe_cmpR (show OpR _ (compareOp .In) (rIn K false) from op_in_seq) (pv 1) (pe_tup (pa_cons (pe_un un_neg pe_int) (pa_cons pe_int (pa_cons pe_int pa_nil)))) (by first | exact nomark _ | rfl))))))) pa_nil))))), ?_⟩
    refine ⟨_, rfl, v, .ty "tuple", _, _, _, rfl, .ty _, Dt.ty hd, kit_tuple d, _, rfl, ite2 (fun e => ?_) (fun e => ?_)⟩
    · have q' := q H (Same.refl _)
      cases d <;> first | exact q' | (simp [isT] at e)
    · have yes : isT d = true := by simpa using e
      cases hd with
      | @tup a xs ds ha t =>
        have len := t.length
        have few := fw.tup ds rfl
        refine ⟨_, rfl, a, rfl, ⟨_, SqT.of ha⟩, fun p hp => lc_tup (xs := xs) (fun j G => Same H G ∧ G p = some (.lst (((ds.map isSg).take j).map V.bl))) ⟨same_new hp, upd_same⟩ (fun j G _ h => SqT.of (h.1 _ _ ha)) ?_ ?_⟩
        · rintro i x G hx ⟨sm, at_⟩
          obtain ⟨d, hd1, hd2⟩ := t.get hx
          have put : ∀ G1, Same G G1 → ∃ acc, G1 p = some (.lst acc) ∧ acc.length < sizeLine ∧ Same H (upd G1 p (.lst (acc ++ [.bl (isSg d)]))) ∧ upd G1 p (.lst (acc ++ [.bl (isSg d)])) p = some (.lst (((ds.map isSg).take (i + 1)).map V.bl)) := fun G1 s1 => by
            refine ⟨_, s1 _ _ at_, ?_, fun b o z => (upd_ne (ne_of_none z hp)).trans (s1 _ _ (sm _ _ z)), ?_⟩
            · rw [List.length_map, List.length_take, List.length_map, sizeLine_eq]
              omega
            · have e2 : (ds.map isSg)[i]? = some (isSg d) := by rw [List.getElem?_map, hd1]; rfl
              rw [upd_same, List.take_add_one, e2, List.map_append]
              rfl
          have hd2 := hd2.same sm
          refine ⟨rfl, ?_⟩
          refine ⟨_, rfl, x, .ty "int", _, _, _, rfl, .ty _, Dt.ty hd2, kit_int d, _, rfl, ite2 (fun e1 => ?_) (fun e1 => ?_)⟩
          · refine ⟨_, rfl, x, .ty "bool", _, _, _, rfl, .ty _, Dt.ty hd2, kit_bool d, _, rfl, _, rfl, ite2 (fun e2 => ?_) (fun e2 => ?_)⟩
            · have int : ∃ n, d = .int n := by
                cases d with
                | int n => exact ⟨n, rfl⟩
                | _ => first | exact Bool.noConfusion e1 | (simp [isB] at e2)
              obtain ⟨n, rfl⟩ := int
              cases hd2
              refine ⟨_, rfl, _, rfl, (by show 3 ≤ sizeLine; decide), fun p1 h1 => ?_⟩
              refine ⟨p1, [.int (-1), .int 0, .int 1], rfl, .inr (SqT.of upd_same), rfl, rfl, ?_⟩
              have e3 : inV (.int n) [.int (-1), .int 0, .int 1] = isSg (.int n) := by
                show ((-1 == n) || ((0 == n) || ((1 == n) || false))) = (decide (-1 ≤ n) && decide (n ≤ 1))
                rw [Bool.eq_iff_iff]
                simp only [Bool.or_eq_true, beq_iff_eq, Bool.and_eq_true, decide_eq_true_eq, Bool.false_eq_true, or_false]
                omega
              have z := put _ (same_new (o := .tup [.int (-1), .int 0, .int 1]) h1)
              rw [← e3] at z
              exact z
            · have e4 : isSg d = false := by
                cases d <;> first | rfl | (simp [isB] at e2)
              have z := put G (Same.refl _)
              rw [e4] at z
              exact z
          · have e4 : isSg d = false := by
              cases d <;> first | rfl | exact absurd rfl e1
            have z := put G (Same.refl _)
            rw [e4] at z
            exact z
        · rintro G ⟨sm, at_⟩
          have el : (ds.map isSg).length = xs.length := by rw [List.length_map, len]
          rw [← el, List.take_length] at at_
          have q' := q G sm
          refine ⟨p, ds.map isSg, rfl, SqL.of at_, ?_⟩
          rw [List.all_map]
          exact q'
      | _ => exact Bool.noConfusion yes
/-- the text that is due -/
def spDueText : Sp := fun vs H Q _ => ∃ (a : Addr) (is : List Int), vs = [.ref a] ∧ H a = some (.tup (is.map V.int)) ∧ Small is ∧ is.length ≤ 21 ∧ ∀ H', Same H H' → Q (.str (signText is)) H'
theorem ok_due_text {f : Addr} {fd : FuncData} (F : Fun K "_law_due_text" "_law_due_text" s__law_due_text f fd) : FnOk P w K mg base CX0 1 f fd ["_law_row"] spDueText := by
  have sc := sc__law_due_text
  refine F.ok sc (fun vs H Q E h => ?_) (fun cdv A outer s H vs Q E hr h => ?_)
  · obtain ⟨a, is, rfl, _⟩ := h
    rfl
  · obtain ⟨b, is, rfl, hb, sm, few, q⟩ := h
    refine ⟨_, (pss_one (ps_ret (pe_join pe_str (pe_lc (own := [("_law_x", 1)]) (g := gName 1) (tt := tYes) (by rfl) sc.nd (pi_tup (pv 0)) (blkOk_by (own := [("_law_x", 1)]) (N := ["_law_row", "_law_x"]) (sc := defScope s__law_due_text) (by decide +kernel)) (fun _ _ _ _ _ => pg_name (i := 1) sc.nd rfl (Or.inl rfl)) (fun _ _ _ _ _ => pts_nil) (fun _ _ _ _ _ => (pe_dget (hu_of hr) (pe_disp (pps_cons (pe_un un_neg pe_int) pe_str (pps_cons pe_int pe_str (pps_cons pe_int pe_str pps_nil))) (by rfl) (by rfl) (fun z => by cases z) (by decide)) (pv 1) (fun _ _ => rfl))))))), ?_⟩
    refine ⟨⟨_, rfl⟩, _, rfl, b, rfl, ⟨_, SqT.of hb⟩, ?_⟩
    refine fun p hp => lc_tup (xs := is.map V.int) (fun j G => Same H G ∧ G p = some (.lst (((is.map fun i => (⟨#[codeOf i]⟩ : Str)).take j).map V.str))) ⟨same_new hp, upd_same⟩ (fun j G _ h => SqT.of (h.1 _ _ hb)) ?_ ?_
    · rintro i x G hx ⟨k, at_⟩
      rw [List.getElem?_map] at hx
      cases hi : is[i]? with
      | none =>
        rw [hi] at hx
        cases hx
      | some z =>
        rw [hi] at hx
        cases hx
        have sz := sm z (List.mem_of_getElem? hi)
        refine ⟨rfl, ?_⟩
        refine fun d1 hd1 => ⟨_, rfl, upd_same, [(Sum.inl (-1), .str "-"), (Sum.inl 0, .str "0"), (Sum.inl 1, .str "+")], rfl, (by decide), ?_⟩
        rw [upd_upd]
        have sd : Same G (upd G d1 (.dK (mergeK [] [(Sum.inl (-1), V.str "-"), (Sum.inl 0, .str "0"), (Sum.inl 1, .str "+")]))) := same_new hd1
        have ad : upd G d1 (.dK (mergeK [] [(Sum.inl (-1), V.str "-"), (Sum.inl 0, .str "0"), (Sum.inl 1, .str "+")])) d1 = some (.dK [(Sum.inl (-1), V.str "-"), (Sum.inl 0, .str "0"), (Sum.inl 1, .str "+")]) := upd_same
        generalize upd G d1 (.dK (mergeK [] [(Sum.inl (-1), V.str "-"), (Sum.inl 0, .str "0"), (Sum.inl 1, .str "+")])) = G1 at sd ad ⊢
        have val : valV [(Sum.inl (-1), V.str "-"), (Sum.inl 0, .str "0"), (Sum.inl 1, .str "+")] (Sum.inl z : Key) = some (.str ⟨#[codeOf z]⟩) := by
          have e : z = -1 ∨ z = 0 ∨ z = 1 := by omega
          rcases e with rfl | rfl | rfl <;> rfl
        have dg := DGet.k (k := Sum.inl z) ad
        rw [val] at dg
        refine ⟨_, rfl, d1, _, rfl, dg, _, sd _ _ at_, ?_, fun b' o z' => (upd_ne (ne_of_none z' hp)).trans (sd _ _ (k _ _ z')), ?_⟩
        · rw [List.length_map, List.length_take, List.length_map, sizeLine_eq]
          omega
        · have e2 : (is.map fun i => (⟨#[codeOf i]⟩ : Str))[i]? = some ⟨#[codeOf z]⟩ := by rw [List.getElem?_map, hi]; rfl
          rw [upd_same, List.take_add_one, e2, List.map_append]
          rfl
    · rintro G ⟨k, at_⟩
      have el : (is.map fun i => (⟨#[codeOf i]⟩ : Str)).length = (is.map V.int).length := by rw [List.length_map, List.length_map]
      rw [← el, List.take_length] at at_
      refine ⟨"", p, is.map fun i => (⟨#[codeOf i]⟩ : Str), rfl, rfl, .inl (SqL.of at_), ?_, ?_⟩
      · have one : ∀ l : List Int, ((l.map fun i => (⟨#[codeOf i]⟩ : Str)).map (·.length)).sum = l.length := fun l => by
          induction l with
          | nil => rfl
          | cons c l ih =>
            rw [List.map_cons, List.map_cons, List.sum_cons, ih, List.length_cons]
            show 1 + l.length = _
            omega
        have e0 : ("" : Str).length = 0 := rfl
        rw [one, e0]
        omega
      · rw [TL.join_eq]
        have e := join_ones (is.map codeOf)
        rw [List.map_map] at e
        have q' := q G k
        unfold signText at q'
        rw [← e] at q'
        exact q'
end
end K13

set_option Elab.async false
set_option linter.all false
set_option maxRecDepth 100000
set_option maxHeartbeats 8000000
namespace K13
open PySem PySem.Spec L2 PSG
open PyProof.Rows (IntsAre AllBare)
abbrev s__law_refused : Stmt := topS 27
theorem sc__law_refused : FnScope ["_law_e", "_law_thing_here", "_law_strange", "_law_classes"] ["_law_e", "_law_thing_here"] (defScope s__law_refused) := ⟨rfl, rfl, rfl, by decide +kernel, rfl, by decide +kernel, by decide +kernel⟩

/-- not in a tuple, of things that are compared deep -/
def rNotInT (K : PySem.W.Frag) : R2 := fun x y H Q => ∃ d ds, Dp K H x d ∧ Dp K H y (.tuple ds) ∧ SeqAt.shaped d = true ∧ SeqAt.shaped (.tuple ds) = true ∧ Q (.bl (!ds.any fun z => PyData.eqv z d)) H
theorem op_notInT {X : Cx} (hu : X.A.units + 65 < cLine) : OpR X (compareOp .NotIn) (rNotInT X.K) := by
  intro pins s σ H x y v u Q I rx ry h
  obtain ⟨d, ds, hd, he, sd, se, q⟩ := h
  obtain ⟨as, r1⟩ := Dp.reads I d x v hd rx
  obtain ⟨bs, r2⟩ := Dp.reads I (.tuple ds) y u he ry
  have hl := SeqAt.depth_of_shaped sd
  exact SeqAt.notIn_tuple_reads r2 r1 (SeqAt.canLay_of_shaped se) (SeqAt.canLay_of_shaped sd) (PyProof.Rows.room_in_shaped sd hu) ⟨.bl _, H, I, rfl, q⟩
/-- what the classes say of the class D -/
structure Says (K : PySem.W.Frag) (D C1 C2 C3 CV CT : Addr) (bV bT : Bool) : Prop where
  x : PySem.W.XcC K D
  k1 : PySem.W.kitOne K (.ref D) (.ref C1) = some false
  k2 : PySem.W.kitOne K (.ref D) (.ref C2) = some false
  k3 : PySem.W.kitOne K (.ref D) (.ref C3) = some false
  kl : PySem.W.kitOne K (.ref D) (.type "LookupError") = some false
  kr : PySem.W.kitOne K (.ref D) (.type "RuntimeError") = some false
  ka : PySem.W.kitOne K (.ref D) (.type "ArithmeticError") = some false
  kv : PySem.W.kitOne K (.ref D) (.type "ValueError") = some true
  iv : PySem.W.kitOne K (.ref D) (.ref CV) = some bV
  it : PySem.W.kitOne K (.ref D) (.ref CT) = some bT
  no : PySem.W.findIn K (.ref D) "value" = some none
structure Nms (mg : Str → Option Value) (C1 C2 C3 CV CT : Addr) : Prop where
  g_InvalidCount : mg "InvalidCount" = some (.ref C1)
  g_InvalidOrder : mg "InvalidOrder" = some (.ref C2)
  g_InvalidValue : mg "InvalidValue" = some (.ref C3)
  g_InvalidVector : mg "InvalidVector" = some (.ref CV)
  g_InvalidText : mg "InvalidText" = some (.ref CT)
section
variable {P : Program} {w : World} {K : PySem.W.Frag} {mg : Str → Option Value} {base : Heap}
def spRefused (C1 C2 C3 CV CT : Addr) (K : PySem.W.Frag) : Addr × Obj → Sp := fun p vs H Q _ => ∃ D o v d bV k, Zc (.ref D) o p.2 ∧ (∃ ws, p.2.data = .fields ws) ∧ vs = [.ref p.1, v] ∧ ExS H o [("value", v)] ∧ Dt true H v d ∧ Fine d ∧
  Says K D C1 C2 C3 CV CT bV (!bV) ∧ k = (if bV = true then ("vector" : Str) else "text") ∧ ∀ q H', Same H H' → H' q = some (.lst [.str k]) → Q (.ref q) H'
set_option maxHeartbeats 40000000 in
theorem ok_refused {C1 C2 C3 CV CT f : Addr} {fd : FuncData} (F : Fun K "_law_refused" "_law_refused" s__law_refused f fd) (T : Blt mg) (Z : Nms mg C1 C2 C3 CV CT) : FnE P w K mg base 1 f fd ["_law_e", "_law_thing_here"] (spRefused C1 C2 C3 CV CT K) := by
  have sc : FnScope ["_law_e", "_law_thing_here", "_law_strange", "_law_classes"] ["_law_e", "_law_thing_here"] (defScope s__law_refused) := sc__law_refused
  refine fnE F sc (fun p vs H Q E h => ?_) (fun cdv B up s H vs Q E p hr gd h => ?_)
  · obtain ⟨D, o, v, d, bV, k, _, _, rfl, _⟩ := h
    rfl
  · obtain ⟨D, o, v, d, bV, k, hz, hf, rfl, xs, hd, fn, Y, ek, give⟩ := h
    have hp : (p.1, p.2) ∈ (L2H.cxH CX0 P w K mg base ["_law_e", "_law_thing_here", "_law_strange", "_law_classes"] "_law_refused" (defScope s__law_refused) f cdv B up s H E p).nox.pn := List.mem_cons_self
    refine ⟨_, (pss_cons (ps_set (i := 2) sc.nd rfl (.inl rfl) (pe_lst (pa_cons (pe_callB (call_hisP hp hz hf) (by rfl) T.n_isinstance (by decide +kernel) (pa_cons (pv 0) (pa_cons (pe_glob (v := .ref _) (by rfl) Z.g_InvalidCount rfl) pa_nil))) (pa_cons (pe_callB (call_hisP hp hz hf) (by rfl) T.n_isinstance (by decide +kernel) (pa_cons (pv 0) (pa_cons (pe_glob (v := .ref _) (by rfl) Z.g_InvalidOrder rfl) pa_nil))) (pa_cons (pe_callB (call_hisP hp hz hf) (by rfl) T.n_isinstance (by decide +kernel) (pa_cons (pv 0) (pa_cons (pe_glob (v := .ref _) (by rfl) Z.g_InvalidValue rfl) pa_nil))) pa_nil)))))
      (pss_cons (ps_set (i := 2) sc.nd rfl (.inl rfl) (pe_op op_cat (pv 2) (pe_lst (pa_cons (pe_callB (call_hisP hp hz hf) (by rfl) T.n_isinstance (by decide +kernel) (pa_cons (pv 0) (pa_cons (pe_bltn (v := .ty "LookupError") (by rfl) T.n_LookupError (by decide +kernel) rfl) pa_nil))) (pa_cons (pe_callB (call_hisP hp hz hf) (by rfl) T.n_isinstance (by decide +kernel) (pa_cons (pv 0) (pa_cons (pe_bltn (v := .ty "RuntimeError") (by rfl) T.n_RuntimeError (by decide +kernel) rfl) pa_nil))) (pa_cons (pe_callB (call_hisP hp hz hf) (by rfl) T.n_isinstance (by decide +kernel) (pa_cons (pv 0) (pa_cons (pe_bltn (v := .ty "ArithmeticError") (by rfl) T.n_ArithmeticError (by decide +kernel) rfl) pa_nil))) pa_nil))))))
      (pss_cons (ps_set (i := 3) sc.nd rfl (.inl rfl) (pe_lst (pa_cons (pe_callB (call_hisP hp hz hf) (by rfl) T.n_isinstance (by decide +kernel) (pa_cons (pv 0) (pa_cons (pe_glob (v := .ref _) (by rfl) Z.g_InvalidVector rfl) pa_nil))) (pa_cons (pe_callB (call_hisP hp hz hf) (by rfl) T.n_isinstance (by decide +kernel) (pa_cons (pv 0) (pa_cons (pe_glob (v := .ref _) (by rfl) Z.g_InvalidText rfl) pa_nil))) pa_nil))))
      (pss_cons (ps_if (PW.pt (pw_or (pt_cmpR op_in_seq pe_bl (pv 2) (by first | exact nomark _ | rfl)) (pw_or (pt_not (pt_val (pe_callB (call_hisP hp hz hf) (by rfl) T.n_isinstance (by decide +kernel) (pa_cons (pv 0) (pa_cons (pe_bltn (v := .ty "ValueError") (by rfl) T.n_ValueError (by decide +kernel) rfl) pa_nil))))) (pw_or1 (pt_cmpR (op_notInT (Nat.lt_of_le_of_lt (Nat.add_le_add_left (by decide : 65 ≤ 200) _) (roomH_units hr))) (pv 3) (pe_tup (pa_cons (pe_lst (pa_cons pe_bl (pa_cons pe_bl pa_nil))) (pa_cons (pe_lst (pa_cons pe_bl (pa_cons pe_bl pa_nil))) pa_nil))) (by first | exact nomark _ | rfl)))))) (pss_one (ps_ret (pe_lst (pa_cons pe_str pa_nil)))) pss_nil)
      (pss_one (ps_ret (pe_ifExp (pt_cmpR op_eq (pe_callB (call_reprH (by have z := roomH_units hr; exact z) gd) (by rfl) T.n_repr (by decide +kernel) (pa_cons (pe_hfldP hp hz hf (pv 0)) pa_nil)) (pe_callB (call_reprH (by have z := roomH_units hr; exact z) gd) (by rfl) T.n_repr (by decide +kernel) (pa_cons (pv 1) pa_nil)) (nomark _)) (pe_lst (pa_cons (pe_ix ix_list (pe_lst (pa_cons pe_str (pa_cons pe_str pa_nil))) (pe_bm PySem.F.plainAttrs_list PySem.F.slot_list_index PySem.F.type_list_index mt_index (pv 3) (pa_cons pe_bl pa_nil)) (fun _ _ => rfl)) pa_nil)) (pe_lst (pa_cons pe_str pa_nil))))))))), ?_⟩
    refine ⟨_, rfl, D, _, false, rfl, xs, Y.x, .inl ⟨.ref C1, .ref C1, rfl, .own _, Y.k1⟩, ?_⟩
    refine ⟨_, rfl, D, _, false, rfl, xs, Y.x, .inl ⟨.ref C2, .ref C2, rfl, .own _, Y.k2⟩, ?_⟩
    refine ⟨_, rfl, D, _, false, rfl, xs, Y.x, .inl ⟨.ref C3, .ref C3, rfl, .own _, Y.k3⟩, ?_⟩
    refine ⟨(by show 3 ≤ sizeLine; decide), fun p1 h1 => ?_⟩
    have a1 : upd H p1 (.lst [.bl false, .bl false, .bl false]) p1 = some (.lst [.bl false, .bl false, .bl false]) := upd_same
    have s1 : Same H (upd H p1 (.lst [.bl false, .bl false, .bl false])) := same_new h1
    generalize upd H p1 (.lst [.bl false, .bl false, .bl false]) = H1 at a1 s1 ⊢
    have x1 := xs.same s1
    refine ⟨_, rfl, _, rfl, D, _, false, rfl, x1, Y.x, .inl ⟨.ty "LookupError", .type "LookupError", rfl, .ty _, Y.kl⟩, ?_⟩
    refine ⟨_, rfl, D, _, false, rfl, x1, Y.x, .inl ⟨.ty "RuntimeError", .type "RuntimeError", rfl, .ty _, Y.kr⟩, ?_⟩
    refine ⟨_, rfl, D, _, false, rfl, x1, Y.x, .inl ⟨.ty "ArithmeticError", .type "ArithmeticError", rfl, .ty _, Y.ka⟩, ?_⟩
    refine ⟨(by show 3 ≤ sizeLine; decide), fun p2 h2 => ?_⟩
    have a2 : upd H1 p2 (.lst [.bl false, .bl false, .bl false]) p2 = some (.lst [.bl false, .bl false, .bl false]) := upd_same
    have s2 : Same H1 (upd H1 p2 (.lst [.bl false, .bl false, .bl false])) := same_new h2
    generalize upd H1 p2 (.lst [.bl false, .bl false, .bl false]) = H2 at a2 s2 ⊢
    refine ⟨p1, p2, _, _, rfl, rfl, s2 _ _ a1, a2, (by show 6 ≤ sizeLine; decide), fun p3 h3 => ?_⟩
    have a3 : upd H2 p3 (.lst [.bl false, .bl false, .bl false, .bl false, .bl false, .bl false]) p3 = some (.lst [.bl false, .bl false, .bl false, .bl false, .bl false, .bl false]) := upd_same
    have s3 : Same H2 (upd H2 p3 (.lst [.bl false, .bl false, .bl false, .bl false, .bl false, .bl false])) := same_new h3
    show tSeq _ _ _ _ (upd H2 p3 (.lst [.bl false, .bl false, .bl false, .bl false, .bl false, .bl false]))
    generalize upd H2 p3 (.lst [.bl false, .bl false, .bl false, .bl false, .bl false, .bl false]) = H3 at a3 s3 ⊢
    have x3 := x1.same (s2.trans s3)
    refine ⟨_, rfl, D, _, bV, rfl, x3, Y.x, .inl ⟨.ref CV, .ref CV, rfl, .own _, Y.iv⟩, ?_⟩
    refine ⟨_, rfl, D, _, !bV, rfl, x3, Y.x, .inl ⟨.ref CT, .ref CT, rfl, .own _, Y.it⟩, ?_⟩
    refine ⟨(by show 2 ≤ sizeLine; decide), fun p4 h4 => ?_⟩
    have a4 : upd H3 p4 (.lst [.bl bV, .bl !bV]) p4 = some (.lst [.bl bV, .bl !bV]) := upd_same
    have s4 : Same H3 (upd H3 p4 (.lst [.bl bV, .bl !bV])) := same_new h4
    generalize upd H3 p4 (.lst [.bl bV, .bl !bV]) = H4 at a4 s4 ⊢
    have x4 := x3.same s4
    refine ⟨_, rfl, p3, _, rfl, .inl (SqL.of (s4 _ _ a3)), rfl, rfl, _, rfl, ?_⟩
    refine ⟨_, rfl, D, _, true, rfl, x4, Y.x, .inl ⟨.ty "ValueError", .type "ValueError", rfl, .ty _, Y.kv⟩, _, rfl, ?_⟩
    cases bV with
    | true =>
      refine ⟨_, rfl, (by show 2 ≤ sizeLine; decide), fun p5 h5 => ?_⟩
      have a5 : upd H4 p5 (.lst [.bl true, .bl false]) p5 = some (.lst [.bl true, .bl false]) := upd_same
      have s5 : Same H4 (upd H4 p5 (.lst [.bl true, .bl false])) := same_new h5
      generalize upd H4 p5 (.lst [.bl true, .bl false]) = H5 at a5 s5 ⊢
      refine ⟨(by show 2 ≤ sizeLine; decide), fun p6 h6 => ?_⟩
      have a6 : upd H5 p6 (.lst [.bl false, .bl true]) p6 = some (.lst [.bl false, .bl true]) := upd_same
      have s6 : Same H5 (upd H5 p6 (.lst [.bl false, .bl true])) := same_new h6
      generalize upd H5 p6 (.lst [.bl false, .bl true]) = H6 at a6 s6 ⊢
      refine ⟨(by show 2 ≤ sizeLine; decide), fun p7 h7 => ?_⟩
      have a7 : upd H6 p7 (.tup [.ref p5, .ref p6]) p7 = some (.tup [.ref p5, .ref p6]) := upd_same
      have s7 : Same H6 (upd H6 p7 (.tup [.ref p5, .ref p6])) := same_new h7
      generalize upd H6 p7 (.tup [.ref p5, .ref p6]) = H7 at a7 s7 ⊢
      have t7 := s5.trans (s6.trans s7)
      have x7 := x4.same t7
      have a4' := t7 _ _ a4
      refine ⟨.list [.bool true, .bool false], [.list [.bool true, .bool false], .list [.bool false, .bool true]], .lst (SqL.of a4') (.cons (.bl _) (.cons (.bl _) .nil)), .tup (SqT.of a7) (.cons (.lst (SqL.of (s7 _ _ (s6 _ _ a5))) (.cons (.bl _) (.cons (.bl _) .nil))) (.cons (.lst (SqL.of (s7 _ _ a6)) (.cons (.bl _) (.cons (.bl _) .nil))) .nil)), by decide +kernel, by decide +kernel, false, by decide +kernel, ?_⟩
      have s17 := s1.trans (s2.trans (s3.trans (s4.trans t7)))
      refine ⟨_, rfl, D, _, v, rfl, rfl, x7, Y.x, Y.no, rfl, ?_⟩
      dsimp only [tNil]
      refine rep_thing (hd.same s17) fn ⟨_, rfl, ?_⟩
      dsimp only [tNil]
      refine rep_thing (hd.same s17) fn ⟨rfl, true, by rw [decide_eq_true rfl], ?_⟩
      refine ⟨(by show 2 ≤ sizeLine; decide), fun p8 h8 => ?_⟩
      have a8 : upd H7 p8 (.lst [.str "vector", .str "text"]) p8 = some (.lst [.str "vector", .str "text"]) := upd_same
      have s8 : Same H7 (upd H7 p8 (.lst [.str "vector", .str "text"])) := same_new h8
      generalize upd H7 p8 (.lst [.str "vector", .str "text"]) = H8 at a8 s8 ⊢
      refine ⟨_, rfl, .inl ⟨rfl, _, SqL.of (s8 _ _ a4')⟩, p4, _, _, 0, _, rfl, rfl, SqL.of (s8 _ _ a4'), rfl, rfl, rfl, rfl, (fun m z hm _ => absurd hm (Nat.not_lt_zero m)), ?_⟩
      exact ⟨p8, _, _, _, rfl, rfl, SqL.of a8, atI_nat (j := 0) rfl, (by show 1 ≤ sizeLine; decide), fun q hq => give q _ (s17.trans (s8.trans (same_new hq))) (by rw [upd_same, ek]; rfl)⟩
    | false =>
      refine ⟨_, rfl, (by show 2 ≤ sizeLine; decide), fun p5 h5 => ?_⟩
      have a5 : upd H4 p5 (.lst [.bl true, .bl false]) p5 = some (.lst [.bl true, .bl false]) := upd_same
      have s5 : Same H4 (upd H4 p5 (.lst [.bl true, .bl false])) := same_new h5
      generalize upd H4 p5 (.lst [.bl true, .bl false]) = H5 at a5 s5 ⊢
      refine ⟨(by show 2 ≤ sizeLine; decide), fun p6 h6 => ?_⟩
      have a6 : upd H5 p6 (.lst [.bl false, .bl true]) p6 = some (.lst [.bl false, .bl true]) := upd_same
      have s6 : Same H5 (upd H5 p6 (.lst [.bl false, .bl true])) := same_new h6
      generalize upd H5 p6 (.lst [.bl false, .bl true]) = H6 at a6 s6 ⊢
      refine ⟨(by show 2 ≤ sizeLine; decide), fun p7 h7 => ?_⟩
      have a7 : upd H6 p7 (.tup [.ref p5, .ref p6]) p7 = some (.tup [.ref p5, .ref p6]) := upd_same
      have s7 : Same H6 (upd H6 p7 (.tup [.ref p5, .ref p6])) := same_new h7
      generalize upd H6 p7 (.tup [.ref p5, .ref p6]) = H7 at a7 s7 ⊢
      have t7 := s5.trans (s6.trans s7)
      have x7 := x4.same t7
      have a4' := t7 _ _ a4
      refine ⟨.list [.bool false, .bool true], [.list [.bool true, .bool false], .list [.bool false, .bool true]], .lst (SqL.of a4') (.cons (.bl _) (.cons (.bl _) .nil)), .tup (SqT.of a7) (.cons (.lst (SqL.of (s7 _ _ (s6 _ _ a5))) (.cons (.bl _) (.cons (.bl _) .nil))) (.cons (.lst (SqL.of (s7 _ _ a6)) (.cons (.bl _) (.cons (.bl _) .nil))) .nil)), by decide +kernel, by decide +kernel, false, by decide +kernel, ?_⟩
      have s17 := s1.trans (s2.trans (s3.trans (s4.trans t7)))
      refine ⟨_, rfl, D, _, v, rfl, rfl, x7, Y.x, Y.no, rfl, ?_⟩
      dsimp only [tNil]
      refine rep_thing (hd.same s17) fn ⟨_, rfl, ?_⟩
      dsimp only [tNil]
      refine rep_thing (hd.same s17) fn ⟨rfl, true, by rw [decide_eq_true rfl], ?_⟩
      refine ⟨(by show 2 ≤ sizeLine; decide), fun p8 h8 => ?_⟩
      have a8 : upd H7 p8 (.lst [.str "vector", .str "text"]) p8 = some (.lst [.str "vector", .str "text"]) := upd_same
      have s8 : Same H7 (upd H7 p8 (.lst [.str "vector", .str "text"])) := same_new h8
      generalize upd H7 p8 (.lst [.str "vector", .str "text"]) = H8 at a8 s8 ⊢
      refine ⟨_, rfl, .inl ⟨rfl, _, SqL.of (s8 _ _ a4')⟩, p4, _, _, 1, _, rfl, rfl, SqL.of (s8 _ _ a4'), rfl, rfl, rfl, rfl, (fun m z hm hz => by
              have e0 : m = 0 := by omega
              subst e0
              cases hz
              rfl), ?_⟩
      exact ⟨p8, _, _, _, rfl, rfl, SqL.of a8, atI_nat (j := 1) rfl, (by show 1 ≤ sizeLine; decide), fun q hq => give q _ (s17.trans (s8.trans (same_new hq))) (by rw [upd_same, ek]; rfl)⟩
end
end K13

set_option Elab.async false
set_option linter.all false
set_option maxRecDepth 100000
set_option maxHeartbeats 8000000
namespace K13
open PySem PySem.Spec L2 PSG
open PyProof.Rows (IntsAre AllBare)
abbrev s__law_turned : Stmt := topS 28
theorem sc__law_turned : FnScope ["_law_thing_here", "_law_is_named", "_law_made", "_law_e"] ["_law_thing_here", "_law_is_named"] (defScope s__law_turned) := ⟨rfl, rfl, rfl, by decide +kernel, rfl, by decide +kernel, by decide +kernel⟩
abbrev s__law_written : Stmt := topS 29
theorem sc__law_written : FnScope ["_law_thing_here", "_law_is_named", "_law_made", "_law_e"] ["_law_thing_here", "_law_is_named"] (defScope s__law_written) := ⟨rfl, rfl, rfl, by decide +kernel, rfl, by decide +kernel, by decide +kernel⟩
abbrev s__law_read : Stmt := topS 30
theorem sc__law_read : FnScope ["_law_thing_here", "_law_is_named", "_law_made", "_law_e"] ["_law_thing_here", "_law_is_named"] (defScope s__law_read) := ⟨rfl, rfl, rfl, by decide +kernel, rfl, by decide +kernel, by decide +kernel⟩

structure Cls4 (K : PySem.W.Frag) (mg : Str → Option Value) (CP CU CV CT : Addr) : Prop where
  g_PairError : mg "PairError" = some (.ref CP)
  g_Unlike : mg "Unlike" = some (.ref CU)
  ev : PySem.W.exmAny K (.ref CV) [.ref CP, .ref CU] = some true
  et : PySem.W.exmAny K (.ref CT) [.ref CP, .ref CU] = some true
theorem small_neg {is : List Int} (h : Small is) : Small (is.map fun i => -i) := fun j hj => by
  obtain ⟨i, hi, rfl⟩ := List.mem_map.mp hj
  have z := h i hi
  omega
theorem sign_code (i : Int) : codeOf i ∈ nine.cps.toList := by
  unfold codeOf
  split
  · decide +kernel
  · split <;> decide +kernel
theorem txt_signs {is : List Int} (few : is.length ≤ 21) : Fine (.str (signText is)) := by
  have h1 : PyData.strOk (PyData.str (signText is)).shown = true := by
    have hq : reprQuote (signText is) = 34 ∨ reprQuote (signText is) = 39 := by
      unfold reprQuote
      split
      · exact .inl rfl
      · exact .inr rfl
    show PyData.strOk (reprText (signText is)) = true
    unfold PyData.strOk reprText
    rw [Array.all_eq_true_iff_forall_mem]
    intro z hz
    refine decide_eq_true ?_
    rcases Array.mem_push.mp hz with hz | hz
    · rw [← Array.foldl_toList] at hz
      have first : ∀ y ∈ (#[reprQuote (signText is)] : Array Nat), y < 0x110000 := fun y hy => by
        have e : y = reprQuote (signText is) := by simpa using hy
        omega
      refine fold_small _ _ _ (fun c hc => ?_) first z hz
      have hc : c ∈ is.map codeOf := by simpa [signText] using hc
      obtain ⟨i, _, rfl⟩ := List.mem_map.mp hc
      exact (nine_shown _ (sign_code i)).2 _ hq
    · omega
  have l := PySem.StrLaws.reprText_len (signText is) fun c hc => by
    have hc : c ∈ is.map codeOf := by simpa [signText] using hc
    obtain ⟨i, _, rfl⟩ := List.mem_map.mp hc
    exact (nine_shown _ (sign_code i)).1.1
  have e : (signText is).length = is.length := by simp [signText, Str.length]
  refine ⟨rfl, ?_, by simp [PyData.depth], h1⟩
  show (reprText (signText is)).length ≤ 1000
  omega
theorem small_read {x : Str} (h : inThree x = true) : Small (readS x) := fun j hj => by
  unfold readS at hj
  obtain ⟨c, hc, rfl⟩ := List.mem_map.mp hj
  exact (rsg_yes c (of_decide_eq_true (List.all_eq_true.mp h c hc))).1
section
variable {P : Program} {w : World} {K : PySem.W.Frag} {mg : Str → Option Value} {base : Heap}
def spTTurned : Sp := fun vs H Q _ => ∃ v d b, vs = [v, .bl b] ∧ Dt true H v d ∧ Tng d ∧ (∀ is, d = .tuple (is.map PyData.int) → Small is → ∀ p H', Same H H' → H' p = some (.lst [.str "told", .str (PyData.tuple ((is.map fun i => -i).map PyData.int)).shown]) → Q (.ref p) H') ∧
  ((isVec d = false) → ∀ p H', Same H H' → H' p = some (.lst [.str "vector"]) → Q (.ref p) H')
set_option maxHeartbeats 40000000 in
theorem ok_turnedT {C1 C2 C3 CP CU CV CT f f1 f2 : Addr} {fd d1 d2 : FuncData} (F : Fun K "_law_turned" "_law_turned" s__law_turned f fd) (T : Blt mg) (Z : Cls4 K mg CP CU CV CT) (YV : Says K CV C1 C2 C3 CV CT true false) (YT : Says K CT C1 C2 C3 CV CT false true)
    (F_turned : Fun K "turned" "turned" s_turned f1 d1) (b_turned : Binds K d1 ["vector"] []) (g_turned : mg "turned" = some (.ref f1)) (G_turned : FnOk P w K mg base (L2.CX P w) 4 f1 d1 ["vector"] (spTurned CV))
    (kb_turned : ∀ (s : Shared) (ws : List Value), K.In s.heap → ws.length = 1 → BindsTo s d1 ⟨[], (["vector"] : List Str).zip ws⟩ ((["vector"] : List Str).zip ws))
    (F__law_refused : Fun K "_law_refused" "_law_refused" s__law_refused f2 d2) (b__law_refused : Binds K d2 ["_law_e", "_law_thing_here"] []) (g__law_refused : mg "_law_refused" = some (.ref f2)) (G__law_refused : FnE P w K mg base 1 f2 d2 ["_law_e", "_law_thing_here"] (spRefused C1 C2 C3 CV CT K)) :
    FnG P w K mg base CX0 5 f fd ["_law_thing_here", "_law_is_named"] spTTurned := by
  have sc := sc__law_turned
  refine okG F sc (fun vs H Q E h => ?_) (fun cdv B up s H vs Q E hr gd h => ?_)
  · obtain ⟨v, d, b, rfl, _⟩ := h
    rfl
  · obtain ⟨v, d, b, rfl, hd, td, k1, k2⟩ := h
    refine ⟨_, (pss_cons (ps_tryCl rfl rfl takes0 (fun W pn xe tk po => (pss_one (ps_set (i := 2) sc.nd rfl (.inl rfl) (pe_lst (pa_cons pe_str (pa_cons (pe_callB (call_reprH (by have z := room_units hr; exact z) gd) (by rfl) T.n_repr (by decide +kernel) (pa_cons (pe_ifExp (pt_val (pv 1)) (pe_callW (ks := ["vector"]) G_turned (hr.mono (by decide)) (by rfl) g_turned F_turned.kp kb_turned rfl (fun σ => passAt tk σ) (pk_cons (pv 0) pk_nil)) (pe_callS G_turned (hr.mono (by decide)) (by rfl) g_turned F_turned.kp b_turned (fun σ => passAt tk σ) (pa_cons (pv 0) pa_nil))) pa_nil)) pa_nil))))))
      (.named sc.nd (i := 3) rfl rfl (asks_two ⟨by rfl, by decide, .inl Z.g_PairError⟩ ⟨by rfl, by decide, .inl Z.g_Unlike⟩) (fun a oe cls d pn hz hf => (pss_one (ps_set (i := 2) sc.nd rfl (.inl rfl) (pe_callH hz hf G__law_refused (hr.mono (by decide)) gd (by rfl) g__law_refused F__law_refused.kp b__law_refused (pa_cons (pv 3) (pa_cons (pv 0) pa_nil)))))) .nil))
      (pss_one (ps_ret (pv 2)))), ?_⟩
    refine ⟨_, rfl, b, rfl, ite2 (fun a => ?_) (fun a => ?_)⟩
    all_goals
      refine ⟨_, rfl, v, d, rfl, hd, td.few, fun is e1 e2 p H1 s1 hp => ?_, fun no o H1 s1 xs => ?_⟩
      · dsimp only [tNil]
        have len : is.length ≤ 21 := by have z := td.few.tup _ e1; rw [List.length_map] at z; exact z
        refine rep_thing (.tup hp (ints_dt _)) (fine_vec (small_neg e2) (by rw [List.length_map]; exact len)) ⟨(by show 2 ≤ sizeLine; decide), fun q hq => ⟨_, rfl, k1 is e1 e2 q _ (s1.trans (same_new hq)) upd_same⟩⟩
      · refine ⟨true, Z.ev, fun _ x hx => ?_, fun z => Bool.noConfusion z⟩
        refine ⟨_, rfl, _, rfl, fun oe hz hf => ?_⟩
        exact ⟨CV, o, v, d, true, _, hz, hf, rfl, xs, hd.same s1, td.fine, YV, rfl, fun q H2 s2 a2 => ⟨_, rfl, k2 no q H2 (s1.trans s2) a2⟩⟩
def spTWritten : Sp := fun vs H Q _ => ∃ v d b, vs = [v, .bl b] ∧ Dt true H v d ∧ Tng d ∧ (∀ is, d = .tuple (is.map PyData.int) → Small is → ∀ p H', Same H H' → H' p = some (.lst [.str "told", .str (PyData.str (signText is)).shown]) → Q (.ref p) H') ∧
  ((isVec d = false) → ∀ p H', Same H H' → H' p = some (.lst [.str "vector"]) → Q (.ref p) H')
set_option maxHeartbeats 40000000 in
theorem ok_writtenT {C1 C2 C3 CP CU CV CT f f1 f2 : Addr} {fd d1 d2 : FuncData} (F : Fun K "_law_written" "_law_written" s__law_written f fd) (T : Blt mg) (Z : Cls4 K mg CP CU CV CT) (YV : Says K CV C1 C2 C3 CV CT true false) (YT : Says K CT C1 C2 C3 CV CT false true)
    (F_vector_text : Fun K "vector_text" "vector_text" s_vector_text f1 d1) (b_vector_text : Binds K d1 ["vector"] []) (g_vector_text : mg "vector_text" = some (.ref f1)) (G_vector_text : FnOk P w K mg base (L2.CX P w) 4 f1 d1 ["vector"] (spText CV))
    (kb_vector_text : ∀ (s : Shared) (ws : List Value), K.In s.heap → ws.length = 1 → BindsTo s d1 ⟨[], (["vector"] : List Str).zip ws⟩ ((["vector"] : List Str).zip ws))
    (F__law_refused : Fun K "_law_refused" "_law_refused" s__law_refused f2 d2) (b__law_refused : Binds K d2 ["_law_e", "_law_thing_here"] []) (g__law_refused : mg "_law_refused" = some (.ref f2)) (G__law_refused : FnE P w K mg base 1 f2 d2 ["_law_e", "_law_thing_here"] (spRefused C1 C2 C3 CV CT K)) :
    FnG P w K mg base CX0 5 f fd ["_law_thing_here", "_law_is_named"] spTWritten := by
  have sc := sc__law_written
  refine okG F sc (fun vs H Q E h => ?_) (fun cdv B up s H vs Q E hr gd h => ?_)
  · obtain ⟨v, d, b, rfl, _⟩ := h
    rfl
  · obtain ⟨v, d, b, rfl, hd, td, k1, k2⟩ := h
    refine ⟨_, (pss_cons (ps_tryCl rfl rfl takes0 (fun W pn xe tk po => (pss_one (ps_set (i := 2) sc.nd rfl (.inl rfl) (pe_lst (pa_cons pe_str (pa_cons (pe_callB (call_reprH (by have z := room_units hr; exact z) gd) (by rfl) T.n_repr (by decide +kernel) (pa_cons (pe_ifExp (pt_val (pv 1)) (pe_callW (ks := ["vector"]) G_vector_text (hr.mono (by decide)) (by rfl) g_vector_text F_vector_text.kp kb_vector_text rfl (fun σ => passAt tk σ) (pk_cons (pv 0) pk_nil)) (pe_callS G_vector_text (hr.mono (by decide)) (by rfl) g_vector_text F_vector_text.kp b_vector_text (fun σ => passAt tk σ) (pa_cons (pv 0) pa_nil))) pa_nil)) pa_nil))))))
      (.named sc.nd (i := 3) rfl rfl (asks_two ⟨by rfl, by decide, .inl Z.g_PairError⟩ ⟨by rfl, by decide, .inl Z.g_Unlike⟩) (fun a oe cls d pn hz hf => (pss_one (ps_set (i := 2) sc.nd rfl (.inl rfl) (pe_callH hz hf G__law_refused (hr.mono (by decide)) gd (by rfl) g__law_refused F__law_refused.kp b__law_refused (pa_cons (pv 3) (pa_cons (pv 0) pa_nil)))))) .nil))
      (pss_one (ps_ret (pv 2)))), ?_⟩
    refine ⟨_, rfl, b, rfl, ite2 (fun a => ?_) (fun a => ?_)⟩
    all_goals
      refine ⟨_, rfl, v, d, rfl, hd, td.few, fun is e1 e2 H1 s1 => ?_, fun no o H1 s1 xs => ?_⟩
      · dsimp only [tNil]
        have len : is.length ≤ 21 := by have z := td.few.tup _ e1; rw [List.length_map] at z; exact z
        refine rep_thing (.str _) (txt_signs len) ⟨(by show 2 ≤ sizeLine; decide), fun q hq => ⟨_, rfl, k1 is e1 e2 q _ (s1.trans (same_new hq)) upd_same⟩⟩
      · refine ⟨true, Z.ev, fun _ x hx => ?_, fun z => Bool.noConfusion z⟩
        refine ⟨_, rfl, _, rfl, fun oe hz hf => ?_⟩
        exact ⟨CV, o, v, d, true, _, hz, hf, rfl, xs, hd.same s1, td.fine, YV, rfl, fun q H2 s2 a2 => ⟨_, rfl, k2 no q H2 (s1.trans s2) a2⟩⟩
def spTRead : Sp := fun vs H Q _ => ∃ v d b, vs = [v, .bl b] ∧ Dt true H v d ∧ Tng d ∧ (∀ x, d = .str x → inThree x = true → ∀ p H', Same H H' → H' p = some (.lst [.str "told", .str (PyData.tuple ((readS x).map PyData.int)).shown]) → Q (.ref p) H') ∧
  ((∀ x, d = .str x → inThree x = false) → ∀ p H', Same H H' → H' p = some (.lst [.str "text"]) → Q (.ref p) H')
set_option maxHeartbeats 40000000 in
theorem ok_readT {C1 C2 C3 CP CU CV CT f f1 f2 : Addr} {fd d1 d2 : FuncData} (F : Fun K "_law_read" "_law_read" s__law_read f fd) (T : Blt mg) (Z : Cls4 K mg CP CU CV CT) (YV : Says K CV C1 C2 C3 CV CT true false) (YT : Says K CT C1 C2 C3 CV CT false true)
    (F_read_vector : Fun K "read_vector" "read_vector" s_read_vector f1 d1) (b_read_vector : Binds K d1 ["text"] []) (g_read_vector : mg "read_vector" = some (.ref f1)) (G_read_vector : FnOk P w K mg base (L2.CX P w) 4 f1 d1 ["text"] (spRead CT))
    (kb_read_vector : ∀ (s : Shared) (ws : List Value), K.In s.heap → ws.length = 1 → BindsTo s d1 ⟨[], (["text"] : List Str).zip ws⟩ ((["text"] : List Str).zip ws))
    (F__law_refused : Fun K "_law_refused" "_law_refused" s__law_refused f2 d2) (b__law_refused : Binds K d2 ["_law_e", "_law_thing_here"] []) (g__law_refused : mg "_law_refused" = some (.ref f2)) (G__law_refused : FnE P w K mg base 1 f2 d2 ["_law_e", "_law_thing_here"] (spRefused C1 C2 C3 CV CT K)) :
    FnG P w K mg base CX0 5 f fd ["_law_thing_here", "_law_is_named"] spTRead := by
  have sc := sc__law_read
  refine okG F sc (fun vs H Q E h => ?_) (fun cdv B up s H vs Q E hr gd h => ?_)
  · obtain ⟨v, d, b, rfl, _⟩ := h
    rfl
  · obtain ⟨v, d, b, rfl, hd, td, k1, k2⟩ := h
    refine ⟨_, (pss_cons (ps_tryCl rfl rfl takes0 (fun W pn xe tk po => (pss_one (ps_set (i := 2) sc.nd rfl (.inl rfl) (pe_lst (pa_cons pe_str (pa_cons (pe_callB (call_reprH (by have z := room_units hr; exact z) gd) (by rfl) T.n_repr (by decide +kernel) (pa_cons (pe_ifExp (pt_val (pv 1)) (pe_callW (ks := ["text"]) G_read_vector (hr.mono (by decide)) (by rfl) g_read_vector F_read_vector.kp kb_read_vector rfl (fun σ => passAt tk σ) (pk_cons (pv 0) pk_nil)) (pe_callS G_read_vector (hr.mono (by decide)) (by rfl) g_read_vector F_read_vector.kp b_read_vector (fun σ => passAt tk σ) (pa_cons (pv 0) pa_nil))) pa_nil)) pa_nil))))))
      (.named sc.nd (i := 3) rfl rfl (asks_two ⟨by rfl, by decide, .inl Z.g_PairError⟩ ⟨by rfl, by decide, .inl Z.g_Unlike⟩) (fun a oe cls d pn hz hf => (pss_one (ps_set (i := 2) sc.nd rfl (.inl rfl) (pe_callH hz hf G__law_refused (hr.mono (by decide)) gd (by rfl) g__law_refused F__law_refused.kp b__law_refused (pa_cons (pv 3) (pa_cons (pv 0) pa_nil)))))) .nil))
      (pss_one (ps_ret (pv 2)))), ?_⟩
    refine ⟨_, rfl, b, rfl, ite2 (fun a => ?_) (fun a => ?_)⟩
    all_goals
      refine ⟨_, rfl, v, d, rfl, hd, td.few, fun x e1 e2 p H1 s1 hp => ?_, fun no o H1 s1 xs => ?_⟩
      · dsimp only [tNil]
        have len : (readS x).length ≤ 21 := by
          have z : x.cps.size ≤ 21 := td.few.str _ e1
          unfold readS
          rw [List.length_map, Array.length_toList]
          exact z
        refine rep_thing (.tup hp (ints_dt _)) (fine_vec (small_read e2) len) ⟨(by show 2 ≤ sizeLine; decide), fun q hq => ⟨_, rfl, k1 x e1 e2 q _ (s1.trans (same_new hq)) upd_same⟩⟩
      · refine ⟨true, Z.et, fun _ x hx => ?_, fun z => Bool.noConfusion z⟩
        refine ⟨_, rfl, _, rfl, fun oe hz hf => ?_⟩
        exact ⟨CT, o, v, d, false, _, hz, hf, rfl, xs, hd.same s1, td.fine, YT, rfl, fun q H2 s2 a2 => ⟨_, rfl, k2 no q H2 (s1.trans s2) a2⟩⟩
end
end K13

set_option Elab.async false
set_option linter.all false
set_option maxRecDepth 100000
set_option maxHeartbeats 8000000
namespace K13
open PySem PySem.Spec L2 PSG
open PyProof.Rows (IntsAre AllBare)
abbrev s__law_vector_right : Stmt := topS 32
theorem sc__law_vector_right : FnScope ["_law_thing_here", "_law_is_named", "_law_kept", "_law_told", "_law_due", "_law_flipped", "_law_x"] ["_law_thing_here", "_law_is_named"] (defScope s__law_vector_right) := ⟨rfl, rfl, rfl, by decide +kernel, rfl, by decide +kernel, by decide +kernel⟩
abbrev s__law_text_right : Stmt := topS 33
theorem sc__law_text_right : FnScope ["_law_thing_here", "_law_is_named", "_law_told", "_law_due", "_law_x"] ["_law_thing_here", "_law_is_named"] (defScope s__law_text_right) := ⟨rfl, rfl, rfl, by decide +kernel, rfl, by decide +kernel, by decide +kernel⟩

theorem ints_inj : ∀ {is js : List Int}, is.map PyData.int = js.map PyData.int → is = js
  | [], [], _ => rfl
  | [], _ :: _, h => by cases h
  | _ :: _, [], h => by cases h
  | i :: is, j :: js, h => by
    rw [List.map_cons, List.map_cons, List.cons.injEq] at h
    obtain ⟨h1, h2⟩ := h
    cases h1
    rw [ints_inj h2]
theorem tup_inj {is js : List Int} (h : PyData.tuple (is.map PyData.int) = .tuple (js.map PyData.int)) : is = js := ints_inj (by
  injection h)
theorem neg_neg_map (is : List Int) : (is.map fun i => -i).map (fun i => -i) = is := by
  rw [List.map_map]
  conv => rhs; rw [← List.map_id is]
  congr 1
  funext i
  exact Int.neg_neg i
theorem rsg_code {i : Int} (h : -1 ≤ i ∧ i ≤ 1) : rsg (codeOf i) = i ∧ codeOf i ∈ three.cps.toList := by
  have e : i = -1 ∨ i = 0 ∨ i = 1 := by omega
  rcases e with rfl | rfl | rfl <;> decide +kernel
theorem read_text : ∀ {is : List Int}, Small is → readS (signText is) = is ∧ inThree (signText is) = true
  | [], _ => ⟨rfl, rfl⟩
  | i :: is, h => by
    obtain ⟨h1, h2⟩ := read_text (is := is) fun j hj => h j (List.mem_cons_of_mem _ hj)
    obtain ⟨h3, h4⟩ := rsg_code (h i List.mem_cons_self)
    constructor
    · show rsg (codeOf i) :: readS (signText is) = _
      rw [h1, h3]
    · show (decide (codeOf i ∈ three.cps.toList) && inThree (signText is)) = true
      rw [h2, decide_eq_true h4]
      rfl
theorem text_read {x : Str} (h : inThree x = true) : signText (readS x) = x := by
  have e : (readS x).map codeOf = x.cps.toList := by
    unfold readS
    rw [List.map_map]
    conv => rhs; rw [← List.map_id x.cps.toList]
    refine List.map_congr_left fun c hc => ?_
    exact (rsg_yes c (of_decide_eq_true (List.all_eq_true.mp h c hc))).2
  unfold signText
  rw [e]
theorem eq_strs {K : PySem.W.Frag} {H : Hp} {a p : Addr} {l : List Str} {Q : VK} (ok : ∀ x ∈ l, PyData.strOk x = true) (h1 : H a = some (.lst (l.map V.str))) (h2 : H p = some (.lst (l.map V.str))) (q : Q (.bl true) H) : rEqD K (.ref a) (.ref p) H Q := by
  refine ⟨_, _, .lst (SqL.of h1) (strs_dp l), .lst (SqL.of h2) (strs_dp l), strs_shaped ok, strs_shaped ok, ?_⟩
  rw [PySem.SeqAt.eqv_refl _ (by simp only [PyData.canLay0, strs_lay l ok])]
  exact q
/-- two pairs of lists of the same texts are alike -/
theorem eq_pairs {K : PySem.W.Frag} {H : Hp} {a b p q p' q' : Addr} {l m : List Str} {Q : VK} (ok1 : ∀ x ∈ l, PyData.strOk x = true) (ok2 : ∀ x ∈ m, PyData.strOk x = true) (ha : H a = some (.lst [.ref p, .ref q])) (hb : H b = some (.lst [.ref p', .ref q']))
    (hp : H p = some (.lst (l.map V.str))) (hq : H q = some (.lst (m.map V.str))) (hp' : H p' = some (.lst (l.map V.str))) (hq' : H q' = some (.lst (m.map V.str))) (k : Q (.bl true) H) : rEqD K (.ref a) (.ref b) H Q := by
  have lay : (PyData.list [.list (l.map PyData.str), .list (m.map PyData.str)]).canLay0 = true := by
    simp only [PyData.canLay0, PyData.canLayAll0, strs_lay l ok1, strs_lay m ok2, Bool.and_self]
  have sh : SeqAt.shaped (.list [.list (l.map PyData.str), .list (m.map PyData.str)]) = true := by
    have d1 := strs_depth l
    have d2 := strs_depth m
    unfold SeqAt.shaped
    rw [lay, decide_eq_true (by simp only [PyData.depth, PyData.depthAll]; omega)]
    rfl
  refine ⟨_, _, .lst (SqL.of ha) (.cons (.lst (SqL.of hp) (strs_dp l)) (.cons (.lst (SqL.of hq) (strs_dp m)) .nil)), .lst (SqL.of hb) (.cons (.lst (SqL.of hp') (strs_dp l)) (.cons (.lst (SqL.of hq') (strs_dp m)) .nil)), sh, sh, ?_⟩
  rw [PySem.SeqAt.eqv_refl _ lay]
  exact k
theorem ok2 {x y : Str} (h1 : PyData.strOk x = true) (h2 : PyData.strOk y = true) : ∀ z ∈ [x, y], PyData.strOk z = true := fun z hz => by
  simp only [List.mem_cons, List.not_mem_nil, or_false] at hz
  rcases hz with rfl | rfl
  · exact h1
  · exact h2
theorem ok1 {x : Str} (h1 : PyData.strOk x = true) : ∀ z ∈ [x], PyData.strOk z = true := fun z hz => by
  rw [List.mem_singleton.mp hz]
  exact h1
theorem ok_told : PyData.strOk "told" = true := by decide +kernel
theorem ok_vector : PyData.strOk "vector" = true := by decide +kernel
theorem ok_textw : PyData.strOk "text" = true := by decide +kernel
section
variable {P : Program} {w : World} {K : PySem.W.Frag} {mg : Str → Option Value} {base : Heap}
def spRight : Sp := fun vs H Q _ => ∃ v d b, vs = [v, .bl b] ∧ Dt true H v d ∧ Tng d ∧ ∀ H', Same H H' → Q (.bl true) H'
set_option maxHeartbeats 40000000 in
theorem ok_vright {CV CT f f1 f2 f3 f4 f5 f6 f7 : Addr} {fd d1 d2 d3 d4 d5 d6 d7 : FuncData} (F : Fun K "_law_vector_right" "_law_vector_right" s__law_vector_right f fd) (T : Blt mg)
    (F__law_turned : Fun K "_law_turned" "_law_turned" s__law_turned f1 d1) (b__law_turned : Binds K d1 ["_law_thing_here", "_law_is_named"] []) (g__law_turned : mg "_law_turned" = some (.ref f1)) (G__law_turned : FnG P w K mg base CX0 5 f1 d1 ["_law_thing_here", "_law_is_named"] spTTurned)
    (F__law_written : Fun K "_law_written" "_law_written" s__law_written f2 d2) (b__law_written : Binds K d2 ["_law_thing_here", "_law_is_named"] []) (g__law_written : mg "_law_written" = some (.ref f2)) (G__law_written : FnG P w K mg base CX0 5 f2 d2 ["_law_thing_here", "_law_is_named"] spTWritten)
    (F__law_is_vector : Fun K "_law_is_vector" "_law_is_vector" s__law_is_vector f3 d3) (b__law_is_vector : Binds K d3 ["_law_thing_here"] []) (g__law_is_vector : mg "_law_is_vector" = some (.ref f3))
    (F__law_due_text : Fun K "_law_due_text" "_law_due_text" s__law_due_text f4 d4) (b__law_due_text : Binds K d4 ["_law_row"] []) (g__law_due_text : mg "_law_due_text" = some (.ref f4))
    (F_turned : Fun K "turned" "turned" s_turned f5 d5) (b_turned : Binds K d5 ["vector"] []) (g_turned : mg "turned" = some (.ref f5)) (G_turned : FnOk P w K mg base (L2.CX P w) 4 f5 d5 ["vector"] (spTurned CV))
    (F_vector_text : Fun K "vector_text" "vector_text" s_vector_text f6 d6) (b_vector_text : Binds K d6 ["vector"] []) (g_vector_text : mg "vector_text" = some (.ref f6)) (G_vector_text : FnOk P w K mg base (L2.CX P w) 4 f6 d6 ["vector"] (spText CV))
    (F_read_vector : Fun K "read_vector" "read_vector" s_read_vector f7 d7) (b_read_vector : Binds K d7 ["text"] []) (g_read_vector : mg "read_vector" = some (.ref f7)) (G_read_vector : FnOk P w K mg base (L2.CX P w) 4 f7 d7 ["text"] (spRead CT)) :
    FnG P w K mg base CX0 6 f fd ["_law_thing_here", "_law_is_named"] spRight := by
  have sc := sc__law_vector_right
  have G__law_is_vector : FnOk P w K mg base CX0 1 f3 d3 _ spVec := ok_is_vec F__law_is_vector T
  have G__law_due_text : FnOk P w K mg base CX0 1 f4 d4 _ spDueText := ok_due_text F__law_due_text
  refine okG F sc (fun vs H Q E h => ?_) (fun cdv B up s H vs Q E hr gd h => ?_)
  · obtain ⟨v, d, b, rfl, _⟩ := h
    rfl
  · obtain ⟨v, d, b, rfl, hd, td, k⟩ := h
    refine ⟨_, (pss_cons (ps_set (i := 2) sc.nd rfl (.inl rfl) (pe_callB (call_reprH (by have z := room_units hr; exact z) gd) (by rfl) T.n_repr (by decide +kernel) (pa_cons (pv 0) pa_nil)))
      (pss_cons (ps_set (i := 3) sc.nd rfl (.inl rfl) (pe_lst (pa_cons (pe_callG G__law_turned (hr.mono (by decide)) gd (by rfl) g__law_turned F__law_turned.kp b__law_turned .nil pass0 (pa_cons (pv 0) (pa_cons (pv 1) pa_nil))) (pa_cons (pe_callG G__law_written (hr.mono (by decide)) gd (by rfl) g__law_written F__law_written.kp b__law_written .nil pass0 (pa_cons (pv 0) (pa_cons (pv 1) pa_nil))) pa_nil))))
      (pss_cons (ps_set (i := 4) sc.nd rfl (.inl rfl) (pe_lst (pa_cons (pe_lst (pa_cons pe_str pa_nil)) (pa_cons (pe_lst (pa_cons pe_str pa_nil)) pa_nil))))
      (pss_cons (ps_if (pt_val (pe_call G__law_is_vector (hr.mono (by decide)) (by rfl) g__law_is_vector F__law_is_vector.kp b__law_is_vector .nil pass0 (pa_cons (pv 0) pa_nil))) (pss_cons (ps_set (i := 5) sc.nd rfl (.inl rfl) (pe_callTy call_tuple_of (by rfl) T.n_tuple (by decide +kernel) (pa_cons (pe_lc (own := [("_law_x", 6)]) (g := gName 6) (tt := tYes) (by rfl) sc.nd (pi_tup (pv 0)) (blkOk_by (own := [("_law_x", 6)]) (N := ["_law_thing_here", "_law_is_named", "_law_kept", "_law_told", "_law_due", "_law_flipped", "_law_x"]) (sc := defScope s__law_vector_right) (by decide +kernel)) (fun _ _ _ _ _ => pg_name (i := 6) sc.nd rfl (Or.inl rfl)) (fun _ _ _ _ _ => pts_nil) (fun _ _ _ _ _ => (pe_dget (hu_of hr) (pe_disp (pps_cons (pe_un un_neg pe_int) pe_int (pps_cons pe_int pe_int (pps_cons pe_int (pe_un un_neg pe_int) pps_nil))) (by rfl) (by rfl) (fun z => by cases z) (by decide)) (pv 6) (fun _ _ => rfl)))) pa_nil)))
      (pss_cons (ps_set (i := 4) sc.nd rfl (.inl rfl) (pe_lst (pa_cons (pe_lst (pa_cons pe_str (pa_cons (pe_callB (call_reprH (by have z := room_units hr; exact z) gd) (by rfl) T.n_repr (by decide +kernel) (pa_cons (pv 5) pa_nil)) pa_nil))) (pa_cons (pe_lst (pa_cons pe_str (pa_cons (pe_callB (call_reprH (by have z := room_units hr; exact z) gd) (by rfl) T.n_repr (by decide +kernel) (pa_cons (pe_call G__law_due_text (hr.mono (by decide)) (by rfl) g__law_due_text F__law_due_text.kp b__law_due_text .nil pass0 (pa_cons (pv 0) pa_nil)) pa_nil)) pa_nil))) pa_nil))))
      (pss_one (ps_if (PW.pt (pw_or (pt_cmpR op_ne (pe_callB (call_reprH (by have z := room_units hr; exact z) gd) (by rfl) T.n_repr (by decide +kernel) (pa_cons (pe_call G_turned (hr.mono (by decide)) (by rfl) g_turned F_turned.kp b_turned .nil passL (pa_cons (pe_call G_turned (hr.mono (by decide)) (by rfl) g_turned F_turned.kp b_turned .nil passL (pa_cons (pv 0) pa_nil)) pa_nil)) pa_nil)) (pv 2) (nomark _)) (pw_or1 (pt_cmpR op_ne (pe_callB (call_reprH (by have z := room_units hr; exact z) gd) (by rfl) T.n_repr (by decide +kernel) (pa_cons (pe_call G_read_vector (hr.mono (by decide)) (by rfl) g_read_vector F_read_vector.kp b_read_vector .nil passL (pa_cons (pe_call G_vector_text (hr.mono (by decide)) (by rfl) g_vector_text F_vector_text.kp b_vector_text .nil passL (pa_cons (pv 0) pa_nil)) pa_nil)) pa_nil)) (pv 2) (nomark _))))) (pss_one (ps_ret pe_bl)) pss_nil)))) pss_nil)
      (pss_one (ps_ret (pe_and (pe_cmpR (op_eqD hr.units) (pv 3) (pv 4) (nomark _)) (pe_one (pe_cmpR op_eq (pe_callB (call_reprH (by have z := room_units hr; exact z) gd) (by rfl) T.n_repr (by decide +kernel) (pa_cons (pv 0) pa_nil)) (pv 2) (nomark _)))))))))), ?_⟩
    refine ⟨_, rfl, ?_⟩
    dsimp only [tNil]
    refine rep_thing hd td.fine ?_
    by_cases hv : isVec d = true
    · obtain ⟨is, a, rfl, sm, rfl, ha⟩ := vec_at hd hv
      have len : is.length ≤ 21 := by have z := td.few.tup _ rfl; rw [List.length_map] at z; exact z
      have nega : ∀ {js : List Int}, PyData.tuple (is.map PyData.int) = .tuple (js.map PyData.int) → js = is := fun h => (tup_inj h).symm
      have notno : ¬ isVec (.tuple (is.map PyData.int)) = false := fun z => by rw [hv] at z; cases z
      refine ⟨_, rfl, _, rfl, _, _, b, rfl, hd, td, fun js e1 e2 p1 H1 s1 a1 => ?_, fun no => absurd no notno⟩
      have e1 := nega e1
      subst e1
      refine ⟨_, rfl, _, rfl, _, _, b, rfl, hd.same s1, td, fun js e1 e2' p2 H2 s2 a2 => ?_, fun no => absurd no notno⟩
      have e1 := nega e1
      subst e1
      refine ⟨(by show 2 ≤ sizeLine; decide), fun pt hpt => ?_⟩
      have at_ : upd H2 pt (.lst [.ref p1, .ref p2]) pt = some (.lst [.ref p1, .ref p2]) := upd_same
      have st : Same H2 (upd H2 pt (.lst [.ref p1, .ref p2])) := same_new hpt
      generalize upd H2 pt (.lst [.ref p1, .ref p2]) = H3 at at_ st ⊢
      refine ⟨(by show 1 ≤ sizeLine; decide), fun q1 hq1 => ⟨(by show 1 ≤ sizeLine; decide), fun q2 hq2 => ⟨(by show 2 ≤ sizeLine; decide), fun q3 hq3 => ?_⟩⟩⟩
      have s4 := (same_new (o := .lst [.str "vector"]) hq1).trans ((same_new (o := .lst [.str "vector"]) hq2).trans (same_new (o := .lst [.ref q1, .ref q2]) hq3))
      generalize upd (upd (upd H3 q1 (.lst [.str "vector"])) q2 (.lst [.str "vector"])) q3 (.lst [.ref q1, .ref q2]) = H4 at s4 ⊢
      have S4 := s1.trans (s2.trans (st.trans s4))
      refine ⟨_, rfl, _, _, rfl, hd.same S4, td.few, fun H5 s5 => ⟨_, rfl, ?_⟩⟩
      rw [hv]
      have S5 := S4.trans s5
      refine ⟨_, rfl, a, rfl, ⟨_, SqT.of (S5 _ _ ha)⟩, fun p hp => lc_tup (xs := js.map V.int) (fun j G => Same H5 G ∧ G p = some (.lst (((js.map fun i => -i).take j).map V.int))) ⟨same_new hp, upd_same⟩ (fun j G _ h => SqT.of (h.1 _ _ (S5 _ _ ha))) ?_ ?_⟩
      · rintro i x G hx ⟨kk, atp⟩
        rw [List.getElem?_map] at hx
        cases hi : js[i]? with
        | none =>
          rw [hi] at hx
          cases hx
        | some z =>
          rw [hi] at hx
          cases hx
          have sz := sm z (List.mem_of_getElem? hi)
          refine ⟨rfl, ?_⟩
          refine fun d1 hd1 => ⟨_, rfl, _, rfl, upd_same, [(Sum.inl (-1), .int 1), (Sum.inl 0, .int 0), (Sum.inl 1, .int (-1))], rfl, (by decide), ?_⟩
          rw [upd_upd]
          have sd : Same G (upd G d1 (.dK (mergeK [] [(Sum.inl (-1), V.int 1), (Sum.inl 0, .int 0), (Sum.inl 1, .int (-1))]))) := same_new hd1
          have ad : upd G d1 (.dK (mergeK [] [(Sum.inl (-1), V.int 1), (Sum.inl 0, .int 0), (Sum.inl 1, .int (-1))])) d1 = some (.dK [(Sum.inl (-1), V.int 1), (Sum.inl 0, .int 0), (Sum.inl 1, .int (-1))]) := upd_same
          generalize upd G d1 (.dK (mergeK [] [(Sum.inl (-1), V.int 1), (Sum.inl 0, .int 0), (Sum.inl 1, .int (-1))])) = G1 at sd ad ⊢
          have val : valV [(Sum.inl (-1), V.int 1), (Sum.inl 0, .int 0), (Sum.inl 1, .int (-1))] (Sum.inl z : Key) = some (.int (-z)) := by
            have e : z = -1 ∨ z = 0 ∨ z = 1 := by omega
            rcases e with rfl | rfl | rfl <;> rfl
          have dg := DGet.k (k := Sum.inl z) ad
          rw [val] at dg
          refine ⟨_, rfl, d1, _, rfl, dg, _, sd _ _ atp, ?_, fun b' o z' => (upd_ne (ne_of_none z' hp)).trans (sd _ _ (kk _ _ z')), ?_⟩
          · rw [List.length_map, List.length_take, List.length_map, sizeLine_eq]
            omega
          · have e2 : (js.map fun i => -i)[i]? = some (-z) := by rw [List.getElem?_map, hi]; rfl
            rw [upd_same, List.take_add_one, e2, List.map_append]
            rfl
      · rintro G ⟨kk, atp⟩
        have el : (js.map fun i => -i).length = (js.map V.int).length := by rw [List.length_map, List.length_map]
        rw [← el, List.take_length] at atp
        refine ⟨p, _, rfl, .inl ⟨SqL.of atp, fun l hl => ?_⟩⟩
        have al : upd G l (.tup ((js.map fun i => -i).map V.int)) l = some (.tup ((js.map fun i => -i).map V.int)) := upd_same
        have sl : Same G (upd G l (.tup ((js.map fun i => -i).map V.int))) := same_new hl
        show tSeq _ _ _ _ (upd G l (.tup ((js.map fun i => -i).map V.int)))
        generalize upd G l (.tup ((js.map fun i => -i).map V.int)) = G1 at al sl ⊢
        have nlen : (js.map fun i => -i).length ≤ 21 := by rw [List.length_map]; exact len
        have fneg := fine_vec (small_neg sm) nlen
        have fpos := fine_vec sm len
        have ftxt := txt_signs len
        refine ⟨_, rfl, ?_⟩
        dsimp only [tNil]
        refine rep_thing (.tup al (ints_dt _)) fneg ⟨(by show 2 ≤ sizeLine; decide), fun r1 hr1 => ?_⟩
        have ar1 : upd G1 r1 (.lst [.str "told", .str (PyData.tuple ((js.map fun i => -i).map PyData.int)).shown]) r1 = some (.lst [.str "told", .str (PyData.tuple ((js.map fun i => -i).map PyData.int)).shown]) := upd_same
        have sr1 : Same G1 (upd G1 r1 (.lst [.str "told", .str (PyData.tuple ((js.map fun i => -i).map PyData.int)).shown])) := same_new hr1
        generalize upd G1 r1 (.lst [.str "told", .str (PyData.tuple ((js.map fun i => -i).map PyData.int)).shown]) = G2 at ar1 sr1 ⊢
        have T2 := S5.trans (kk.trans (sl.trans sr1))
        refine ⟨_, rfl, a, js, rfl, T2 _ _ ha, sm, (by omega), fun G3 sG3 => ?_⟩
        dsimp only [tNil]
        refine rep_thing (.str _) ftxt ⟨(by show 2 ≤ sizeLine; decide), fun r2 hr2 => ?_⟩
        have ar2 : upd G3 r2 (.lst [.str "told", .str (PyData.str (signText js)).shown]) r2 = some (.lst [.str "told", .str (PyData.str (signText js)).shown]) := upd_same
        have sr2 : Same G3 (upd G3 r2 (.lst [.str "told", .str (PyData.str (signText js)).shown])) := same_new hr2
        generalize upd G3 r2 (.lst [.str "told", .str (PyData.str (signText js)).shown]) = G4 at ar2 sr2 ⊢
        refine ⟨(by show 2 ≤ sizeLine; decide), fun r3 hr3 => ?_⟩
        have ar3 : upd G4 r3 (.lst [.ref r1, .ref r2]) r3 = some (.lst [.ref r1, .ref r2]) := upd_same
        have sr3 : Same G4 (upd G4 r3 (.lst [.ref r1, .ref r2])) := same_new hr3
        generalize upd G4 r3 (.lst [.ref r1, .ref r2]) = G5 at ar3 sr3 ⊢
        have T5 := T2.trans (sG3.trans (sr2.trans sr3))
        have few2 : ∀ {is : List Int}, is.length ≤ 21 → Few (.tuple (is.map PyData.int)) := fun {is} h => ⟨fun ds e => (by
          cases e
          rw [List.length_map]
          exact h), fun x e => (nomatch e)⟩
        refine ⟨_, rfl, _, _, rfl, hd.same T5, td.few, fun is' e3 _ p6 H6 s6 a6 => ?_, fun no => absurd no notno⟩
        have e3 := nega e3
        subst e3
        refine ⟨_, _, rfl, .tup a6 (ints_dt _), few2 nlen, fun is2 e4 _ p7 H7 s7 a7 => ?_, fun no => absurd no (by rw [vec_of (small_neg sm)]; exact Bool.noConfusion)⟩
        have e4 := tup_inj e4
        subst e4
        rw [neg_neg_map] at a7
        dsimp only [tNil]
        refine rep_thing (.tup a7 (ints_dt _)) fpos ⟨_, rfl, rfl, false, (by rw [decide_eq_true rfl]; rfl), ?_⟩
        have T7 := T5.trans (s6.trans s7)
        refine ⟨_, rfl, _, _, rfl, hd.same T7, td.few, fun is3 e5 _ H8 s8 => ?_, fun no => absurd no notno⟩
        have e5 := nega e5
        subst e5
        have rt := read_text sm
        refine ⟨_, _, rfl, .str _, ⟨fun ds e => (nomatch e), fun x e => (by
          cases e
          have e0 : (signText is3).length = is3.length := by simp [signText, Str.length]
          omega)⟩, fun x e6 _ p9 H9 s9 a9 => ?_, fun no => absurd (no _ rfl) (by rw [rt.2]; exact Bool.noConfusion)⟩
        cases e6
        rw [rt.1] at a9
        dsimp only [tNil]
        refine rep_thing (.tup a9 (ints_dt _)) fpos ⟨_, rfl, rfl, false, (by rw [decide_eq_true rfl]; rfl), ?_⟩
        have T9 := T7.trans (s8.trans s9)
        have up59 := s6.trans (s7.trans (s8.trans s9))
        have upst := s4.trans (s5.trans (kk.trans (sl.trans (sr1.trans (sG3.trans (sr2.trans (sr3.trans up59)))))))
        refine ⟨_, rfl, _, rfl, eq_pairs (l := ["told", (PyData.tuple ((is3.map fun i => -i).map PyData.int)).shown]) (m := ["told", (PyData.str (signText is3)).shown]) (ok2 ok_told fneg.ok) (ok2 ok_told ftxt.ok) (upst _ _ at_) (up59 _ _ ar3)
          (upst _ _ (st _ _ (s2 _ _ a1))) (upst _ _ (st _ _ a2)) (up59 _ _ (sr3 _ _ (sr2 _ _ (sG3 _ _ ar1)))) (up59 _ _ (sr3 _ _ ar2)) ⟨_, rfl, ?_⟩⟩
        refine ⟨_, rfl, ?_⟩
        dsimp only [tNil]
        refine rep_thing (hd.same T9) td.fine ⟨_, rfl, rfl, ?_⟩
        rw [decide_eq_true rfl]
        exact k _ T9
    · have nov : isVec d = false := Bool.eq_false_iff.mpr hv
      have notv : ∀ {js : List Int}, d = .tuple (js.map PyData.int) → Small js → False := fun e h => hv (by rw [e]; exact vec_of h)
      refine ⟨_, rfl, _, rfl, _, _, b, rfl, hd, td, fun js e1 e2 => (notv e1 e2).elim, fun _ p1 H1 s1 a1 => ?_⟩
      refine ⟨_, rfl, _, rfl, _, _, b, rfl, hd.same s1, td, fun js e1 e2 => (notv e1 e2).elim, fun _ p2 H2 s2 a2 => ?_⟩
      refine ⟨(by show 2 ≤ sizeLine; decide), fun pt hpt => ?_⟩
      have at_ : upd H2 pt (.lst [.ref p1, .ref p2]) pt = some (.lst [.ref p1, .ref p2]) := upd_same
      have st : Same H2 (upd H2 pt (.lst [.ref p1, .ref p2])) := same_new hpt
      generalize upd H2 pt (.lst [.ref p1, .ref p2]) = H3 at at_ st ⊢
      refine ⟨(by show 1 ≤ sizeLine; decide), fun q1 hq1 => ?_⟩
      have b1 : upd H3 q1 (.lst [.str "vector"]) q1 = some (.lst [.str "vector"]) := upd_same
      have t1 : Same H3 (upd H3 q1 (.lst [.str "vector"])) := same_new hq1
      generalize upd H3 q1 (.lst [.str "vector"]) = H4 at b1 t1 ⊢
      refine ⟨(by show 1 ≤ sizeLine; decide), fun q2 hq2 => ?_⟩
      have b2 : upd H4 q2 (.lst [.str "vector"]) q2 = some (.lst [.str "vector"]) := upd_same
      have t2 : Same H4 (upd H4 q2 (.lst [.str "vector"])) := same_new hq2
      generalize upd H4 q2 (.lst [.str "vector"]) = H5 at b2 t2 ⊢
      refine ⟨(by show 2 ≤ sizeLine; decide), fun q3 hq3 => ?_⟩
      have b3 : upd H5 q3 (.lst [.ref q1, .ref q2]) q3 = some (.lst [.ref q1, .ref q2]) := upd_same
      have t3 : Same H5 (upd H5 q3 (.lst [.ref q1, .ref q2])) := same_new hq3
      generalize upd H5 q3 (.lst [.ref q1, .ref q2]) = H6 at b3 t3 ⊢
      have S6 := s1.trans (s2.trans (st.trans (t1.trans (t2.trans t3))))
      refine ⟨_, rfl, _, _, rfl, hd.same S6, td.few, fun H7 s7 => ⟨_, rfl, ?_⟩⟩
      rw [nov]
      have up3 := t1.trans (t2.trans (t3.trans s7))
      refine ⟨_, rfl, _, rfl, eq_pairs (l := ["vector"]) (m := ["vector"]) (ok1 ok_vector) (ok1 ok_vector) (up3 _ _ at_) (s7 _ _ b3) (up3 _ _ (st _ _ (s2 _ _ a1))) (up3 _ _ (st _ _ a2)) (s7 _ _ (t3 _ _ (t2 _ _ b1))) (s7 _ _ (t3 _ _ b2)) ⟨_, rfl, ?_⟩⟩
      refine ⟨_, rfl, ?_⟩
      dsimp only [tNil]
      refine rep_thing (hd.same (S6.trans s7)) td.fine ⟨_, rfl, rfl, ?_⟩
      rw [decide_eq_true rfl]
      exact k _ (S6.trans s7)
end
end K13

set_option Elab.async false
set_option linter.all false
set_option maxRecDepth 100000
set_option maxHeartbeats 8000000
namespace K13
open PySem PySem.Spec L2 PSG
open PyProof.Rows (IntsAre AllBare)
abbrev s_law : Stmt := topS 34
theorem sc_law : FnScope ["_law_script", "_law_k", "_law_rng_here", "_law_turn", "_law_is_named"] ["_law_script"] (defScope s_law) := ⟨rfl, rfl, rfl, by decide +kernel, rfl, by decide +kernel, by decide +kernel⟩

def threes (x : Str) : List Bool := x.cps.toList.map fun c => decide (c ∈ three.cps.toList)
theorem threes_all (x : Str) : (threes x).all id = inThree x := by
  unfold threes inThree
  rw [List.all_map]
  rfl
theorem in_signs (c : Nat) : inV (.str ⟨#[c]⟩) [.str "-", .str "0", .str "+"] = decide (c ∈ three.cps.toList) := by
  have e1 : ("-" : Str) = ⟨#[45]⟩ := by decide +kernel
  have e2 : ("0" : Str) = ⟨#[48]⟩ := by decide +kernel
  have e3 : ("+" : Str) = ⟨#[43]⟩ := by decide +kernel
  have e4 : three.cps.toList = [45, 48, 43] := by decide +kernel
  have one : ∀ n : Nat, ((⟨#[n]⟩ : Str) == ⟨#[c]⟩) = decide (c = n) := fun n => by
    rw [Bool.eq_iff_iff, beq_iff_eq, decide_eq_true_eq]
    constructor
    · intro h
      injection h with h
      injection h with h
      injection h with h _
      exact h.symm
    · intro h
      rw [h]
  show (((("-" : Str) == ⟨#[c]⟩) || ((("0" : Str) == ⟨#[c]⟩) || ((("+" : Str) == ⟨#[c]⟩) || false)))) = _
  rw [e1, e2, e3, e4, one, one, one, Bool.or_false, Bool.eq_iff_iff]
  simp only [Bool.or_eq_true, decide_eq_true_eq, List.mem_cons, List.not_mem_nil, or_false]
section
variable {P : Program} {w : World} {K : PySem.W.Frag} {mg : Str → Option Value} {base : Heap}
set_option maxHeartbeats 40000000 in
theorem ok_tright {CV CT f f1 f2 f3 : Addr} {fd d1 d2 d3 : FuncData} (F : Fun K "_law_text_right" "_law_text_right" s__law_text_right f fd) (T : Blt mg)
    (F__law_read : Fun K "_law_read" "_law_read" s__law_read f1 d1) (b__law_read : Binds K d1 ["_law_thing_here", "_law_is_named"] []) (g__law_read : mg "_law_read" = some (.ref f1)) (G__law_read : FnG P w K mg base CX0 5 f1 d1 ["_law_thing_here", "_law_is_named"] spTRead)
    (F_vector_text : Fun K "vector_text" "vector_text" s_vector_text f2 d2) (b_vector_text : Binds K d2 ["vector"] []) (g_vector_text : mg "vector_text" = some (.ref f2)) (G_vector_text : FnOk P w K mg base (L2.CX P w) 4 f2 d2 ["vector"] (spText CV))
    (F_read_vector : Fun K "read_vector" "read_vector" s_read_vector f3 d3) (b_read_vector : Binds K d3 ["text"] []) (g_read_vector : mg "read_vector" = some (.ref f3)) (G_read_vector : FnOk P w K mg base (L2.CX P w) 4 f3 d3 ["text"] (spRead CT)) :
    FnG P w K mg base CX0 6 f fd ["_law_thing_here", "_law_is_named"] spRight := by
  have sc := sc__law_text_right
  refine okG F sc (fun vs H Q E h => ?_) (fun cdv B up s H vs Q E hr gd h => ?_)
  · obtain ⟨v, d, b, rfl, _⟩ := h
    rfl
  · obtain ⟨v, d, b, rfl, hd, td, k⟩ := h
    refine ⟨_, (pss_cons (ps_set (i := 2) sc.nd rfl (.inl rfl) (pe_callG G__law_read (hr.mono (by decide)) gd (by rfl) g__law_read F__law_read.kp b__law_read .nil pass0 (pa_cons (pv 0) (pa_cons (pv 1) pa_nil))))
      (pss_cons (ps_if (PW.pt (pw_or (pt_not (pt_val (pe_callB call_isi (by rfl) T.n_isinstance (by decide +kernel) (pa_cons (pv 0) (pa_cons (pe_bltn (v := .ty "str") (by rfl) T.n_str (by decide +kernel) rfl) pa_nil))))) (pw_or1 (pt_not (pt_val (pe_callB (cr_all rfl) (by rfl) T.n_all (by decide +kernel) (pa_cons (pe_lc (own := [("_law_x", 4)]) (g := gName 4) (tt := tYes) (by rfl) sc.nd (pi_str (pv 0)) (blkOk_by (own := [("_law_x", 4)]) (N := ["_law_thing_here", "_law_is_named", "_law_told", "_law_due", "_law_x"]) (sc := defScope s__law_text_right) (by decide +kernel)) (fun _ _ _ _ _ => pg_name (i := 4) sc.nd rfl (Or.inl rfl)) (fun _ _ _ _ _ => pts_nil) (fun _ _ _ _ _ => (pe_cmpR (show OpR _ (compareOp .In) (rIn K false) from op_in_seq) (pv 4) (pe_tup (pa_cons pe_str (pa_cons pe_str (pa_cons pe_str pa_nil)))) (by first | exact nomark _ | rfl)))) pa_nil))))))) (pss_one (ps_ret (pe_cmpR (op_eqD hr.units) (pv 2) (pe_lst (pa_cons pe_str pa_nil)) (nomark _)))) pss_nil)
      (pss_cons (ps_set (i := 3) sc.nd rfl (.inl rfl) (pe_callTy call_tuple_of (by rfl) T.n_tuple (by decide +kernel) (pa_cons (pe_lc (own := [("_law_x", 4)]) (g := gName 4) (tt := tYes) (by rfl) sc.nd (pi_str (pv 0)) (blkOk_by (own := [("_law_x", 4)]) (N := ["_law_thing_here", "_law_is_named", "_law_told", "_law_due", "_law_x"]) (sc := defScope s__law_text_right) (by decide +kernel)) (fun _ _ _ _ _ => pg_name (i := 4) sc.nd rfl (Or.inl rfl)) (fun _ _ _ _ _ => pts_nil) (fun _ _ _ _ _ => (pe_dget (hu_of hr) (pe_disp (pps_cons pe_str (pe_un un_neg pe_int) (pps_cons pe_str pe_int (pps_cons pe_str pe_int pps_nil))) (by rfl) (by rfl) (fun z => by cases z) (by decide)) (pv 4) (fun _ _ => rfl)))) pa_nil)))
      (pss_one (ps_ret (pe_and (pe_cmpR (op_eqD hr.units) (pv 2) (pe_lst (pa_cons pe_str (pa_cons (pe_callB (call_reprH (by have z := room_units hr; exact z) gd) (by rfl) T.n_repr (by decide +kernel) (pa_cons (pv 3) pa_nil)) pa_nil))) (nomark _)) (pe_one (pe_cmpR op_eq (pe_call G_vector_text (hr.mono (by decide)) (by rfl) g_vector_text F_vector_text.kp b_vector_text .nil passL (pa_cons (pe_call G_read_vector (hr.mono (by decide)) (by rfl) g_read_vector F_read_vector.kp b_read_vector .nil passL (pa_cons (pv 0) pa_nil)) pa_nil)) (pv 0) (nomark _))))))))), ?_⟩
    by_cases hx : ∃ x, d = .str x ∧ inThree x = true
    · obtain ⟨x, rfl, hx⟩ := hx
      cases hd
      have few : x.cps.size ≤ 21 := td.few.str x rfl
      have smr := small_read hx
      have rl : (readS x).length = x.cps.size := by
        unfold readS
        rw [List.length_map, Array.length_toList]
      have frd := fine_vec smr (by omega)
      have notno : ¬ (∀ y, PyData.str x = .str y → inThree y = false) := fun z => by
        have z := z x rfl
        rw [hx] at z
        cases z
      refine ⟨_, rfl, _, rfl, .str x, _, b, rfl, .str x, td, fun y e1 _ p1 H1 s1 a1 => ?_, fun no => absurd no notno⟩
      cases e1
      refine ⟨_, rfl, .str x, .ty "str", _, _, _, rfl, .ty _, Dt.ty (.str (far := true) x), kit_str (.str x), _, rfl, ?_⟩
      refine ⟨_, rfl, x, rfl, fun p hp => lc_str (fun j G => Same H1 G ∧ G p = some (.lst (((threes x).take j).map V.bl))) ⟨same_new hp, upd_same⟩ ?_ ?_⟩
      · rintro i c G hc ⟨sm, at_⟩
        refine ⟨rfl, ?_⟩
        refine ⟨_, rfl, (by show 3 ≤ sizeLine; decide), fun p3 h3 => ?_⟩
        have s3 : Same G (upd G p3 (.tup [.str "-", .str "0", .str "+"])) := same_new h3
        refine ⟨p3, [.str "-", .str "0", .str "+"], rfl, .inr (SqT.of upd_same), rfl, rfl, _, s3 _ _ at_, ?_, fun b o z => (upd_ne (ne_of_none z hp)).trans (s3 _ _ (sm _ _ z)), ?_⟩
        · rw [List.length_map, List.length_take, sizeLine_eq]
          have tl : (threes x).length = x.cps.size := by
            unfold threes
            rw [List.length_map, Array.length_toList]
          omega
        · have e2 : (threes x)[i]? = some (decide (c ∈ three.cps.toList)) := by
            unfold threes
            rw [List.getElem?_map, Array.getElem?_toList, hc]
            rfl
          have e3 := in_signs c
          rw [upd_same, List.take_add_one, e2, List.map_append, ← e3]
          rfl
      · rintro G ⟨sm, at_⟩
        have tl : (threes x).length = x.cps.size := by
          unfold threes
          rw [List.length_map, Array.length_toList]
        rw [← tl, List.take_length] at at_
        refine ⟨p, threes x, rfl, SqL.of at_, _, rfl, ?_⟩
        rw [threes_all, hx]
        refine ⟨_, rfl, x, rfl, fun p2 hp2 => lc_str (fun j G' => Same G G' ∧ G' p2 = some (.lst (((readS x).take j).map V.int))) ⟨same_new hp2, upd_same⟩ ?_ ?_⟩
        · rintro i c G1 hc ⟨sm1, at1⟩
          have mc : c ∈ three.cps.toList := of_decide_eq_true (List.all_eq_true.mp hx c (List.mem_of_getElem? (by rw [Array.getElem?_toList]; exact hc)))
          refine ⟨rfl, ?_⟩
          refine fun d1 hd1 => ⟨_, rfl, upd_same, [(Sum.inr "-", .int (-1)), (Sum.inr "0", .int 0), (Sum.inr "+", .int 1)], rfl, (by decide), ?_⟩
          rw [upd_upd]
          have ad : upd G1 d1 (.dK (mergeK [] [(Sum.inr "-", V.int (-1)), (Sum.inr "0", .int 0), (Sum.inr "+", .int 1)])) d1 = some (.dK (mergeK [] [(Sum.inr "-", V.int (-1)), (Sum.inr "0", .int 0), (Sum.inr "+", .int 1)])) := upd_same
          have sd : Same G1 (upd G1 d1 (.dK (mergeK [] [(Sum.inr "-", V.int (-1)), (Sum.inr "0", .int 0), (Sum.inr "+", .int 1)]))) := same_new hd1
          generalize upd G1 d1 (.dK (mergeK [] [(Sum.inr "-", V.int (-1)), (Sum.inr "0", .int 0), (Sum.inr "+", .int 1)])) = G2 at sd ad ⊢
          have val : valV (mergeK [] [(Sum.inr "-", V.int (-1)), (Sum.inr "0", .int 0), (Sum.inr "+", .int 1)]) (Sum.inr ⟨#[c]⟩ : Key) = some (.int (rsg c)) := by
            have e4 : three.cps.toList = [45, 48, 43] := by decide +kernel
            rw [e4] at mc
            simp only [List.mem_cons, List.not_mem_nil, or_false] at mc
            rcases mc with rfl | rfl | rfl <;> decide +kernel
          have dg := DGet.k (k := Sum.inr ⟨#[c]⟩) ad
          rw [val] at dg
          refine ⟨_, rfl, d1, _, rfl, dg, _, sd _ _ at1, ?_, fun b' o z' => (upd_ne (ne_of_none z' hp2)).trans (sd _ _ (sm1 _ _ z')), ?_⟩
          · rw [List.length_map, List.length_take, rl, sizeLine_eq]
            omega
          · have e2 : (readS x)[i]? = some (rsg c) := by
              unfold readS
              rw [List.getElem?_map, Array.getElem?_toList, hc]
              rfl
            rw [upd_same, List.take_add_one, e2, List.map_append]
            rfl
        · rintro G1 ⟨sm1, at1⟩
          rw [← rl, List.take_length] at at1
          refine ⟨p2, _, rfl, .inl ⟨SqL.of at1, fun l hl => ?_⟩⟩
          have al : upd G1 l (.tup ((readS x).map V.int)) l = some (.tup ((readS x).map V.int)) := upd_same
          have sl : Same G1 (upd G1 l (.tup ((readS x).map V.int))) := same_new hl
          generalize upd G1 l (.tup ((readS x).map V.int)) = G2 at al sl ⊢
          have T2 := sm.trans (sm1.trans sl)
          refine ⟨_, rfl, _, rfl, ?_⟩
          dsimp only [tNil]
          refine rep_thing (.tup al (ints_dt _)) frd ⟨(by show 2 ≤ sizeLine; decide), fun r hr => ?_⟩
          have sr : Same G2 (upd G2 r (.lst [.str "told", .str (PyData.tuple ((readS x).map PyData.int)).shown])) := same_new hr
          refine eq_strs (l := ["told", (PyData.tuple ((readS x).map PyData.int)).shown]) (ok2 ok_told frd.ok) (sr _ _ (T2 _ _ a1)) upd_same ⟨_, rfl, ?_⟩
          generalize upd G2 r (.lst [.str "told", .str (PyData.tuple ((readS x).map PyData.int)).shown]) = G3 at sr ⊢
          refine ⟨_, rfl, .str x, _, rfl, .str x, td.few, fun y e2 _ p3 H3 s3 a3 => ?_, fun no => absurd no notno⟩
          cases e2
          refine ⟨_, _, rfl, .tup a3 (ints_dt _), ⟨fun ds e => (by
            cases e
            rw [List.length_map]
            omega), fun y e => (nomatch e)⟩, fun is e3 _ H4 s4 => ?_, fun no => absurd no (by rw [vec_of smr]; exact Bool.noConfusion)⟩
          have e3 := tup_inj e3
          subst e3
          refine ⟨_, rfl, rfl, ?_⟩
          rw [text_read hx, decide_eq_true rfl]
          exact k _ (s1.trans (T2.trans (sr.trans (s3.trans s4))))
    · have no : ∀ x, d = .str x → inThree x = false := fun x e => Bool.eq_false_iff.mpr fun z => hx ⟨x, e, z⟩
      refine ⟨_, rfl, _, rfl, v, d, b, rfl, hd, td, fun y e1 e2 => absurd ⟨y, e1, e2⟩ hx, fun _ p1 H1 s1 a1 => ?_⟩
      refine ⟨_, rfl, v, .ty "str", _, _, _, rfl, .ty _, Dt.ty (hd.same s1), kit_str d, _, rfl, ite2 (fun e => ?_) (fun e => ?_)⟩
      · refine ⟨_, rfl, (by show 1 ≤ sizeLine; decide), fun r hr => ?_⟩
        exact eq_strs (l := ["text"]) (ok1 ok_textw) (same_new hr _ _ a1) upd_same (k _ (s1.trans (same_new hr)))
      · have yes : isS d = true := by simpa using e
        cases hd with
        | str x =>
          have few : x.cps.size ≤ 21 := td.few.str x rfl
          refine ⟨_, rfl, x, rfl, fun p hp => lc_str (fun j G => Same H1 G ∧ G p = some (.lst (((threes x).take j).map V.bl))) ⟨same_new hp, upd_same⟩ ?_ ?_⟩
          · rintro i c G hc ⟨sm, at_⟩
            refine ⟨rfl, ?_⟩
            refine ⟨_, rfl, (by show 3 ≤ sizeLine; decide), fun p3 h3 => ?_⟩
            have s3 : Same G (upd G p3 (.tup [.str "-", .str "0", .str "+"])) := same_new h3
            refine ⟨p3, [.str "-", .str "0", .str "+"], rfl, .inr (SqT.of upd_same), rfl, rfl, _, s3 _ _ at_, ?_, fun b o z => (upd_ne (ne_of_none z hp)).trans (s3 _ _ (sm _ _ z)), ?_⟩
            · rw [List.length_map, List.length_take, sizeLine_eq]
              have tl : (threes x).length = x.cps.size := by
                unfold threes
                rw [List.length_map, Array.length_toList]
              omega
            · have e2 : (threes x)[i]? = some (decide (c ∈ three.cps.toList)) := by
                unfold threes
                rw [List.getElem?_map, Array.getElem?_toList, hc]
                rfl
              have e3 := in_signs c
              rw [upd_same, List.take_add_one, e2, List.map_append, ← e3]
              rfl
          · rintro G ⟨sm, at_⟩
            have tl : (threes x).length = x.cps.size := by
              unfold threes
              rw [List.length_map, Array.length_toList]
            rw [← tl, List.take_length] at at_
            refine ⟨p, threes x, rfl, SqL.of at_, _, rfl, ?_⟩
            rw [threes_all, no x rfl]
            refine ⟨_, rfl, (by show 1 ≤ sizeLine; decide), fun r hr => ?_⟩
            exact eq_strs (l := ["text"]) (ok1 ok_textw) (same_new hr _ _ (sm _ _ a1)) upd_same (k _ (s1.trans (sm.trans (same_new hr))))
        | _ => exact Bool.noConfusion yes
end
end K13

set_option Elab.async false
set_option linter.all false
set_option maxRecDepth 100000
set_option maxHeartbeats 8000000
namespace K13
open PySem PySem.Spec L2 PSG
open PyProof.Rows (IntsAre AllBare)

section
variable {P : Program} {w : World} {K : PySem.W.Frag} {mg : Str → Option Value} {base : Heap}
def spLaw (K : PySem.W.Frag) : Sp := fun vs H Q _ => ∃ (a : Addr) (ns : List Int), vs = [.ref a] ∧ SqL K H a (ns.map V.int) ∧ ns.length ≤ 63 ∧ ∀ H', Q (.bl true) H'
set_option maxHeartbeats 40000000 in
theorem ok_law {f fR f1 f2 f3 f4 f5 : Addr} {fd dR d1 d2 d3 d4 d5 : FuncData} (F : Fun K "law" "law" s_law f fd) (T : Blt mg)
    (F__law_rng : Fun K "_law_rng" "_law_rng" s__law_rng fR dR) (b__law_rng : Binds K dR ["_law_script", "_law_k"] []) (g__law_rng : mg "_law_rng" = some (.ref fR))
    (F__law_signs : Fun K "_law_signs" "_law_signs" s__law_signs f1 d1) (b__law_signs : Binds K d1 ["_law_rng_here"] []) (g__law_signs : mg "_law_signs" = some (.ref f1)) (G__law_signs : FnOk P w K mg base CX0 2 f1 d1 ["_law_rng_here"] spSigns)
    (F__law_thing : Fun K "_law_thing" "_law_thing" s__law_thing f2 d2) (b__law_thing : Binds K d2 ["_law_rng_here"] []) (g__law_thing : mg "_law_thing" = some (.ref f2)) (G__law_thing : FnOk P w K mg base CX0 3 f2 d2 ["_law_rng_here"] spThing)
    (F__law_string : Fun K "_law_string" "_law_string" s__law_string f3 d3) (b__law_string : Binds K d3 ["_law_rng_here"] []) (g__law_string : mg "_law_string" = some (.ref f3)) (G__law_string : FnOk P w K mg base CX0 3 f3 d3 ["_law_rng_here"] spThing)
    (F__law_vector_right : Fun K "_law_vector_right" "_law_vector_right" s__law_vector_right f4 d4) (b__law_vector_right : Binds K d4 ["_law_thing_here", "_law_is_named"] []) (g__law_vector_right : mg "_law_vector_right" = some (.ref f4)) (G__law_vector_right : FnG P w K mg base CX0 6 f4 d4 ["_law_thing_here", "_law_is_named"] spRight)
    (F__law_text_right : Fun K "_law_text_right" "_law_text_right" s__law_text_right f5 d5) (b__law_text_right : Binds K d5 ["_law_thing_here", "_law_is_named"] []) (g__law_text_right : mg "_law_text_right" = some (.ref f5)) (G__law_text_right : FnG P w K mg base CX0 6 f5 d5 ["_law_thing_here", "_law_is_named"] spRight) :
    FnG P w K mg base CX0 7 f fd ["_law_script"] (spLaw K) := by
  have sc := sc_law
  have G__law_rng : FnOk P w K mg base CX0 1 fR dR ["_law_script", "_law_k"] (spRng K) := ok_rng F__law_rng T
  refine okG F sc (fun vs H Q E h => ?_) (fun cdv B up s H vs Q E hr gd h => ?_)
  · obtain ⟨a, ns, rfl, _⟩ := h
    rfl
  · obtain ⟨a, ns, rfl, hS, hlen, k⟩ := h
    refine ⟨_, (pss_cons (ps_for PassesOwn.never (by rfl) (pi_range1 (by rfl) T.n_range (pa_cons (pe_callB (call_max2 rfl) (by rfl) T.n_max (by decide +kernel) (pa_cons pe_int (pa_cons (pe_callB (call_min2 rfl) (by rfl) T.n_min (by decide +kernel) (pa_cons (pe_callB call_len_seq (by rfl) T.n_len PySem.boot_len (pa_cons (pv 0) pa_nil)) (pa_cons pe_int pa_nil))) pa_nil))) pa_nil)) (pg_name (i := 1) sc.nd rfl (.inl rfl)) (pss_cons (ps_set (i := 2) sc.nd rfl (.inl rfl) (pe_call G__law_rng (hr.mono (by decide)) (by rfl) g__law_rng F__law_rng.kp b__law_rng .nil pass0 (pa_cons (pv 0) (pa_cons (pv 1) pa_nil))))
      (pss_one (ps_for PassesOwn.never (by rfl) (pi_range1 (by rfl) T.n_range (pa_cons pe_int pa_nil)) (pg_name (i := 3) sc.nd rfl (.inl rfl)) (pss_cons (ps_set (i := 4) sc.nd rfl (.inl rfl) (pe_cmpR op_eq (pe_op op_mod (pv 3) pe_int) pe_int (nomark _)))
      (pss_cons (ps_if (PW.pt (pw_or (pt_not (pt_val (pe_callG G__law_vector_right (hr.mono (by decide)) gd (by rfl) g__law_vector_right F__law_vector_right.kp b__law_vector_right .nil pass0 (pa_cons (pe_call G__law_signs (hr.mono (by decide)) (by rfl) g__law_signs F__law_signs.kp b__law_signs .nil pass0 (pa_cons (pv 2) pa_nil)) (pa_cons (pv 4) pa_nil))))) (pw_or1 (pt_not (pt_val (pe_callG G__law_vector_right (hr.mono (by decide)) gd (by rfl) g__law_vector_right F__law_vector_right.kp b__law_vector_right .nil pass0 (pa_cons (pe_call G__law_thing (hr.mono (by decide)) (by rfl) g__law_thing F__law_thing.kp b__law_thing .nil pass0 (pa_cons (pv 2) pa_nil)) (pa_cons (pv 4) pa_nil)))))))) (pss_one (ps_ret pe_bl)) pss_nil)
      (pss_one (ps_if (pt_not (pt_val (pe_callG G__law_text_right (hr.mono (by decide)) gd (by rfl) g__law_text_right F__law_text_right.kp b__law_text_right .nil pass0 (pa_cons (pe_call G__law_string (hr.mono (by decide)) (by rfl) g__law_string F__law_string.kp b__law_string .nil pass0 (pa_cons (pv 2) pa_nil)) (pa_cons (pv 4) pa_nil))))) (pss_one (ps_ret pe_bl)) pss_nil))))))))
      (pss_one (ps_ret pe_bl))), ?_⟩
    refine ⟨_, rfl, a, _, rfl, .inl hS, _, _, rfl, _, _, rfl, _, rfl, ?_, ?_, for_range (lo := 0) (fun i σ G => ∃ u1 u2 u3 u4, σ = [some (.ref a), u1, u2, u3, u4] ∧ Same H G) ⟨none, none, none, none, rfl, Same.refl _⟩ ?_ ?_⟩
    · split <;> split <;> omega
    · split <;> split <;> omega
    · rintro i σ G hi ⟨u1, u2, u3, u4, rfl, s0⟩
      have lt : i ≤ 1000 := by
        have z : (i : Int) < 8 := by
          have z1 : (i : Int) < _ := Int.lt_toNat.mp hi
          refine Int.lt_of_lt_of_le z1 ?_
          split <;> split <;> omega
        omega
      refine ⟨_, rfl, _, rfl, a, ns, i, (by show [V.ref a, V.int (0 + (i : Int))] = [V.ref a, V.int i]; rw [Int.zero_add]), s0.seq hS, lt, fun r x y hr0 x0 y0 y1 => ?_⟩
      have g1 : Rg (upd G r (.lst [.int x, .int y])) r := ⟨x, y, upd_same, x0, y0, y1⟩
      have s1 : Same G (upd G r (.lst [.int x, .int y])) := same_new hr0
      generalize upd G r (.lst [.int x, .int y]) = G1 at g1 s1 ⊢
      refine ⟨12, rfl, by decide, by decide, for_range (lo := 0) (fun j σ G' => ∃ u1 u3 u4, σ = [some (.ref a), u1, some (.ref r), u3, u4] ∧ Rg G' r ∧ But r G1 G') ⟨_, _, _, rfl, g1, But.refl⟩ ?_ ?_⟩
      · rintro j σ G2 hj ⟨v1, v3, v4, rfl, g2, b2⟩
        refine ⟨_, rfl, _, _, rfl, rfl, (by show (0 : Int) < _; decide), rfl, ?_⟩
        refine ⟨_, rfl, r, rfl, g2, fun p is H3 g3 b3 sm len np ap => ?_⟩
        refine ⟨_, rfl, .ref p, .tuple (is.map PyData.int), _, rfl, .tup ap (ints_dt is), thing_tup (by rw [List.length_map]; omega) (ints_els sm), fun H4 s4 => ⟨_, rfl, ?_⟩⟩
        refine ⟨_, rfl, r, rfl, g3.same s4, fun v d H5 g5 b5 dv tv => ?_⟩
        refine ⟨_, rfl, v, d, _, rfl, dv.same news_sub, tv, fun H6 s6 => ⟨_, rfl, ?_⟩⟩
        refine ⟨_, rfl, r, rfl, g5.same s6, fun v2 d2 H7 g7 b7 dv2 tv2 => ?_⟩
        refine ⟨_, rfl, v2, d2, _, rfl, dv2.same news_sub, tv2, fun H8 s8 => ⟨_, rfl, ?_⟩⟩
        exact ⟨_, _, _, rfl, g7.same s8, ((((((b2.trans b3).trans (But.of s4)).trans b5).trans (But.of s6)).trans b7).trans (But.of s8))⟩
      · rintro σ G2 ⟨v1, v3, v4, rfl, g2, b2⟩
        refine ⟨_, _, _, _, rfl, fun b o e => ?_⟩
        have e1 := s0 _ _ e
        exact b2 _ _ (ne_of_none e1 hr0) (s1 _ _ e1)
    · rintro σ G ⟨u1, u2, u3, u4, rfl, s0⟩
      exact k G
end
end K13

set_option Elab.async false
set_option linter.all false
set_option maxRecDepth 100000
set_option maxHeartbeats 8000000
namespace K13
open PySem PySem.Spec L2 PSG
open PyProof.Rows (IntsAre AllBare)
/-- the classes against each other, in one look -/
def kits (K : PySem.W.Frag) (CV CT CP CU C1 C2 C3 : Addr) : Bool :=
  decide (PySem.W.kitOne K (.ref CV) (.ref C1) = some false) && (decide (PySem.W.kitOne K (.ref CV) (.ref C2) = some false) && (decide (PySem.W.kitOne K (.ref CV) (.ref C3) = some false) && (decide (PySem.W.kitOne K (.ref CV) (.type "LookupError") = some false) && (decide (PySem.W.kitOne K (.ref CV) (.type "RuntimeError") = some false) && (decide (PySem.W.kitOne K (.ref CV) (.type "ArithmeticError") = some false) && (decide (PySem.W.kitOne K (.ref CV) (.type "ValueError") = some true) && (decide (PySem.W.kitOne K (.ref CV) (.ref CV) = some true) && (decide (PySem.W.kitOne K (.ref CV) (.ref CT) = some false) && (decide (PySem.W.exmAny K (.ref CV) [.ref CP, .ref CU] = some true) && (decide (PySem.W.kitOne K (.ref CT) (.ref C1) = some false) && (decide (PySem.W.kitOne K (.ref CT) (.ref C2) = some false) && (decide (PySem.W.kitOne K (.ref CT) (.ref C3) = some false) && (decide (PySem.W.kitOne K (.ref CT) (.type "LookupError") = some false) && (decide (PySem.W.kitOne K (.ref CT) (.type "RuntimeError") = some false) && (decide (PySem.W.kitOne K (.ref CT) (.type "ArithmeticError") = some false) && (decide (PySem.W.kitOne K (.ref CT) (.type "ValueError") = some true) && (decide (PySem.W.kitOne K (.ref CT) (.ref CV) = some false) && (decide (PySem.W.kitOne K (.ref CT) (.ref CT) = some true) && (decide (PySem.W.exmAny K (.ref CT) [.ref CP, .ref CU] = some true))))))))))))))))))))
section
variable {P : Program} {w : World} {K : PySem.W.Frag} {mg : Str → Option Value} {base : Heap} {f C : Addr} {fd : FuncData} {B newId initId : String} {bmB : List Value}
abbrev si0 : Stmt := inClass (topS 6) 0
theorem sci0 : FnScope ["self", "value"] ["self", "value"] (defScope si0) := ⟨rfl, rfl, rfl, by decide +kernel, rfl, by decide +kernel, by decide +kernel⟩
theorem oki0 (F : Fun K "__init__" "InvalidVector.__init__" si0 f fd) (T : Xk K C f B newId initId bmB) (no0 : PySem.W.findIn K (.ref C) "value" = some none) : FnOk P w K mg base CX0 1 f fd ["self", "value"] (spXI C ["value"]) := by
  have sc := sci0
  refine F.ok sc (fun vs H Q E h => ?_) (fun cdv A outer s H vs Q E hr h => ?_)
  · obtain ⟨a, ws, rfl, hl, _⟩ := h
    exact congrArg Nat.succ hl
  · obtain ⟨a, ws, rfl, hl, hH, k⟩ := h
    obtain ⟨v0, rfl⟩ := ws_1 hl
    refine ⟨_, pss_one (ps_xset (pv 0) (pv 1)), ?_⟩
    refine ⟨_, rfl, _, rfl, a, C, f, _, _, _, _, rfl, T, no0, .inl ⟨hH, fun dx nd na => ?_⟩⟩
    have keep : ∀ u : HO, ∀ b o, b ≠ a → H b = some o → (upd (upd H dx u) a (exo a C (some dx))) b = some o := fun u b o hb e => (upd_ne hb).trans ((upd_ne (ne_of_none e nd)).trans e)
    exact k _ (keep _) (.inr ⟨dx, by simp, upd_same, (upd_ne na).trans upd_same⟩)
theorem own0 (F : Fun K "__init__" "InvalidVector.__init__" si0 f fd) (g : mg "InvalidVector" = some (.ref C)) (i : PySem.W.findIn K (.ref C) "__init__" = some (some (.ref f))) (L : Look K C f [.type "ValueError", .type "Exception", .type "BaseException", .type "object"] "ValueError.__new__" ["value"]) : Own P w K mg base "InvalidVector" C ["value"] := by
  have X := L.xk (B := "ValueError") (initId := "ValueError.__init__") i PySem.F.excBase_ValueError PySem.F.store_ValueError
  exact ⟨g, f, fd, ["self", "value"], _, _, _, _, X, oki0 F X (L.no _ (by decide +kernel)), F.binds (ps := ["self", "value"]) (fun _ _ _ _ _ _ us hl => match us, hl with | [_, _], _ => rfl), rfl⟩
abbrev si1 : Stmt := inClass (topS 9) 0
theorem sci1 : FnScope ["self", "value"] ["self", "value"] (defScope si1) := ⟨rfl, rfl, rfl, by decide +kernel, rfl, by decide +kernel, by decide +kernel⟩
theorem oki1 (F : Fun K "__init__" "InvalidText.__init__" si1 f fd) (T : Xk K C f B newId initId bmB) (no0 : PySem.W.findIn K (.ref C) "value" = some none) : FnOk P w K mg base CX0 1 f fd ["self", "value"] (spXI C ["value"]) := by
  have sc := sci1
  refine F.ok sc (fun vs H Q E h => ?_) (fun cdv A outer s H vs Q E hr h => ?_)
  · obtain ⟨a, ws, rfl, hl, _⟩ := h
    exact congrArg Nat.succ hl
  · obtain ⟨a, ws, rfl, hl, hH, k⟩ := h
    obtain ⟨v0, rfl⟩ := ws_1 hl
    refine ⟨_, pss_one (ps_xset (pv 0) (pv 1)), ?_⟩
    refine ⟨_, rfl, _, rfl, a, C, f, _, _, _, _, rfl, T, no0, .inl ⟨hH, fun dx nd na => ?_⟩⟩
    have keep : ∀ u : HO, ∀ b o, b ≠ a → H b = some o → (upd (upd H dx u) a (exo a C (some dx))) b = some o := fun u b o hb e => (upd_ne hb).trans ((upd_ne (ne_of_none e nd)).trans e)
    exact k _ (keep _) (.inr ⟨dx, by simp, upd_same, (upd_ne na).trans upd_same⟩)
theorem own1 (F : Fun K "__init__" "InvalidText.__init__" si1 f fd) (g : mg "InvalidText" = some (.ref C)) (i : PySem.W.findIn K (.ref C) "__init__" = some (some (.ref f))) (L : Look K C f [.type "ValueError", .type "Exception", .type "BaseException", .type "object"] "ValueError.__new__" ["value"]) : Own P w K mg base "InvalidText" C ["value"] := by
  have X := L.xk (B := "ValueError") (initId := "ValueError.__init__") i PySem.F.excBase_ValueError PySem.F.store_ValueError
  exact ⟨g, f, fd, ["self", "value"], _, _, _, _, X, oki1 F X (L.no _ (by decide +kernel)), F.binds (ps := ["self", "value"]) (fun _ _ _ _ _ _ us hl => match us, hl with | [_, _], _ => rfl), rfl⟩
end
set_option maxHeartbeats 0 in
theorem all_mk {l : PySem.W.OpenLaw} {w : World} {K : PySem.W.Frag} {h : Heap} {mg : Str → Option Value} {fa CV CT CP CU C1 C2 C3 f0 f1 fd0 fd1 fd2 fd3 fd4 fd5 fd6 fd7 fd8 fd9 fd10 fd11 fd12 fd13 fd14 fd15 fd16 fd17 fd18 fd19 fd20 fd21 fd22 : Addr} (X : K.In h) (G : h.Ns mainGlobals mg) (hfa : mg "law" = some (.ref fa))
    {od0 an0 od1 an1 odd0 and0 odd1 and1 odd2 and2 odd3 and3 odd4 and4 odd5 and5 odd6 and6 odd7 and7 odd8 and8 odd9 and9 odd10 and10 odd11 and11 odd12 and12 odd13 and13 odd14 and14 odd15 and15 odd16 and16 odd17 and17 odd18 and18 odd19 and19 odd20 and20 odd21 and21 odd22 and22 : Option Addr} {sl0 sl1 sld0 sld1 sld2 sld3 sld4 sld5 sld6 sld7 sld8 sld9 sld10 sld11 sld12 sld13 sld14 sld15 sld16 sld17 sld18 sld19 sld20 sld21 sld22 : Array (Option Value)} {oc0 kV0 dc0 pm0 cv0 ct0 oc1 kV1 dc1 pm1 cv1 ct1 ocd0 kVd0 dcd0 pmd0 cvd0 ctd0 ocd1 kVd1 dcd1 pmd1 cvd1 ctd1 ocd2 kVd2 dcd2 pmd2 cvd2 ctd2 ocd3 kVd3 dcd3 pmd3 cvd3 ctd3 ocd4 kVd4 dcd4 pmd4 cvd4 ctd4 ocd5 kVd5 dcd5 pmd5 cvd5 ctd5 ocd6 kVd6 dcd6 pmd6 cvd6 ctd6 ocd7 kVd7 dcd7 pmd7 cvd7 ctd7 ocd8 kVd8 dcd8 pmd8 cvd8 ctd8 ocd9 kVd9 dcd9 pmd9 cvd9 ctd9 ocd10 kVd10 dcd10 pmd10 cvd10 ctd10 ocd11 kVd11 dcd11 pmd11 cvd11 ctd11 ocd12 kVd12 dcd12 pmd12 cvd12 ctd12 ocd13 kVd13 dcd13 pmd13 cvd13 ctd13 ocd14 kVd14 dcd14 pmd14 cvd14 ctd14 ocd15 kVd15 dcd15 pmd15 cvd15 ctd15 ocd16 kVd16 dcd16 pmd16 cvd16 ctd16 ocd17 kVd17 dcd17 pmd17 cvd17 ctd17 ocd18 kVd18 dcd18 pmd18 cvd18 ctd18 ocd19 kVd19 dcd19 pmd19 cvd19 ctd19 ocd20 kVd20 dcd20 pmd20 cvd20 ctd20 ocd21 kVd21 dcd21 pmd21 cvd21 ctd21 ocd22 kVd22 dcd22 pmd22 cvd22 ctd22 : Value} {tS : Tok}
    (a0 : PySem.W.nsIn K mainGlobals "InvalidVector" = some (some (.ref CV)))
    (i0 : PySem.W.findIn K (.ref CV) "__init__" = some (some (.ref f0)))
    (l0 : K.lookup f0 = some ⟨oc0, od0, .func (PySem.W.fnOf "__init__" "InvalidVector.__init__" (defArgs si0) (defBody si0) (defScope si0) .none kV0 dc0 pm0 an0 cv0 ct0), sl0⟩)
    (c0 : PySem.W.codeIn K cv0 "InvalidVector.__init__" = true)
    (k0 : PySem.W.keepIn K (.ref f0) = true)
    (a1 : PySem.W.nsIn K mainGlobals "InvalidText" = some (some (.ref CT)))
    (i1 : PySem.W.findIn K (.ref CT) "__init__" = some (some (.ref f1)))
    (l1 : K.lookup f1 = some ⟨oc1, od1, .func (PySem.W.fnOf "__init__" "InvalidText.__init__" (defArgs si1) (defBody si1) (defScope si1) .none kV1 dc1 pm1 an1 cv1 ct1), sl1⟩)
    (c1 : PySem.W.codeIn K cv1 "InvalidText.__init__" = true)
    (k1 : PySem.W.keepIn K (.ref f1) = true)
    (aCP : PySem.W.nsIn K mainGlobals "PairError" = some (some (.ref CP)))
    (aCU : PySem.W.nsIn K mainGlobals "Unlike" = some (some (.ref CU)))
    (aC1 : PySem.W.nsIn K mainGlobals "InvalidCount" = some (some (.ref C1)))
    (aC2 : PySem.W.nsIn K mainGlobals "InvalidOrder" = some (some (.ref C2)))
    (aC3 : PySem.W.nsIn K mainGlobals "InvalidValue" = some (some (.ref C3)))
    (ad0 : PySem.W.nsIn K mainGlobals "is_integer" = some (some (.ref fd0)))
    (ld0 : K.lookup fd0 = some ⟨ocd0, odd0, .func (PySem.W.fnOf "is_integer" "is_integer" (defArgs s_is_integer) (defBody s_is_integer) (defScope s_is_integer) .none kVd0 dcd0 pmd0 and0 cvd0 ctd0), sld0⟩)
    (cd0 : PySem.W.codeIn K cvd0 "is_integer" = true)
    (kd0 : PySem.W.keepIn K (.ref fd0) = true)
    (ad1 : PySem.W.nsIn K mainGlobals "is_sign" = some (some (.ref fd1)))
    (ld1 : K.lookup fd1 = some ⟨ocd1, odd1, .func (PySem.W.fnOf "is_sign" "is_sign" (defArgs s_is_sign) (defBody s_is_sign) (defScope s_is_sign) .none kVd1 dcd1 pmd1 and1 cvd1 ctd1), sld1⟩)
    (cd1 : PySem.W.codeIn K cvd1 "is_sign" = true)
    (kd1 : PySem.W.keepIn K (.ref fd1) = true)
    (ad2 : PySem.W.nsIn K mainGlobals "is_vector" = some (some (.ref fd2)))
    (ld2 : K.lookup fd2 = some ⟨ocd2, odd2, .func (PySem.W.fnOf "is_vector" "is_vector" (defArgs s_is_vector) (defBody s_is_vector) (defScope s_is_vector) .none kVd2 dcd2 pmd2 and2 cvd2 ctd2), sld2⟩)
    (cd2 : PySem.W.codeIn K cvd2 "is_vector" = true)
    (kd2 : PySem.W.keepIn K (.ref fd2) = true)
    (ad3 : PySem.W.nsIn K mainGlobals "turned" = some (some (.ref fd3)))
    (ld3 : K.lookup fd3 = some ⟨ocd3, odd3, .func (PySem.W.fnOf "turned" "turned" (defArgs s_turned) (defBody s_turned) (defScope s_turned) .none kVd3 dcd3 pmd3 and3 cvd3 ctd3), sld3⟩)
    (cd3 : PySem.W.codeIn K cvd3 "turned" = true)
    (kd3 : PySem.W.keepIn K (.ref fd3) = true)
    (ad4 : PySem.W.nsIn K mainGlobals "sign_text" = some (some (.ref fd4)))
    (ld4 : K.lookup fd4 = some ⟨ocd4, odd4, .func (PySem.W.fnOf "sign_text" "sign_text" (defArgs s_sign_text) (defBody s_sign_text) (defScope s_sign_text) .none kVd4 dcd4 pmd4 and4 cvd4 ctd4), sld4⟩)
    (cd4 : PySem.W.codeIn K cvd4 "sign_text" = true)
    (kd4 : PySem.W.keepIn K (.ref fd4) = true)
    (ad5 : PySem.W.nsIn K mainGlobals "vector_text" = some (some (.ref fd5)))
    (ld5 : K.lookup fd5 = some ⟨ocd5, odd5, .func (PySem.W.fnOf "vector_text" "vector_text" (defArgs s_vector_text) (defBody s_vector_text) (defScope s_vector_text) .none kVd5 dcd5 pmd5 and5 cvd5 ctd5), sld5⟩)
    (cd5 : PySem.W.codeIn K cvd5 "vector_text" = true)
    (kd5 : PySem.W.keepIn K (.ref fd5) = true)
    (ad6 : PySem.W.nsIn K mainGlobals "read_sign" = some (some (.ref fd6)))
    (ld6 : K.lookup fd6 = some ⟨ocd6, odd6, .func (PySem.W.fnOf "read_sign" "read_sign" (defArgs s_read_sign) (defBody s_read_sign) (defScope s_read_sign) .none kVd6 dcd6 pmd6 and6 cvd6 ctd6), sld6⟩)
    (cd6 : PySem.W.codeIn K cvd6 "read_sign" = true)
    (kd6 : PySem.W.keepIn K (.ref fd6) = true)
    (ad7 : PySem.W.nsIn K mainGlobals "read_vector" = some (some (.ref fd7)))
    (ld7 : K.lookup fd7 = some ⟨ocd7, odd7, .func (PySem.W.fnOf "read_vector" "read_vector" (defArgs s_read_vector) (defBody s_read_vector) (defScope s_read_vector) .none kVd7 dcd7 pmd7 and7 cvd7 ctd7), sld7⟩)
    (cd7 : PySem.W.codeIn K cvd7 "read_vector" = true)
    (kd7 : PySem.W.keepIn K (.ref fd7) = true)
    (ad8 : PySem.W.nsIn K mainGlobals "_law_rng" = some (some (.ref fd8)))
    (ld8 : K.lookup fd8 = some ⟨ocd8, odd8, .func (PySem.W.fnOf "_law_rng" "_law_rng" (defArgs s__law_rng) (defBody s__law_rng) (defScope s__law_rng) .none kVd8 dcd8 pmd8 and8 cvd8 ctd8), sld8⟩)
    (cd8 : PySem.W.codeIn K cvd8 "_law_rng" = true)
    (kd8 : PySem.W.keepIn K (.ref fd8) = true)
    (ad9 : PySem.W.nsIn K mainGlobals "_law_draw" = some (some (.ref fd9)))
    (ld9 : K.lookup fd9 = some ⟨ocd9, odd9, .func (PySem.W.fnOf "_law_draw" "_law_draw" (defArgs s__law_draw) (defBody s__law_draw) (defScope s__law_draw) .none kVd9 dcd9 pmd9 and9 cvd9 ctd9), sld9⟩)
    (cd9 : PySem.W.codeIn K cvd9 "_law_draw" = true)
    (kd9 : PySem.W.keepIn K (.ref fd9) = true)
    (ad10 : PySem.W.nsIn K mainGlobals "_law_choice" = some (some (.ref fd10)))
    (ld10 : K.lookup fd10 = some ⟨ocd10, odd10, .func (PySem.W.fnOf "_law_choice" "_law_choice" (defArgs s__law_choice) (defBody s__law_choice) (defScope s__law_choice) .none kVd10 dcd10 pmd10 and10 cvd10 ctd10), sld10⟩)
    (cd10 : PySem.W.codeIn K cvd10 "_law_choice" = true)
    (kd10 : PySem.W.keepIn K (.ref fd10) = true)
    (ad11 : PySem.W.nsIn K mainGlobals "_law_signs" = some (some (.ref fd11)))
    (ld11 : K.lookup fd11 = some ⟨ocd11, odd11, .func (PySem.W.fnOf "_law_signs" "_law_signs" (defArgs s__law_signs) (defBody s__law_signs) (defScope s__law_signs) .none kVd11 dcd11 pmd11 and11 cvd11 ctd11), sld11⟩)
    (cd11 : PySem.W.codeIn K cvd11 "_law_signs" = true)
    (kd11 : PySem.W.keepIn K (.ref fd11) = true)
    (ad12 : PySem.W.nsIn K mainGlobals "_law_thing" = some (some (.ref fd12)))
    (ld12 : K.lookup fd12 = some ⟨ocd12, odd12, .func (PySem.W.fnOf "_law_thing" "_law_thing" (defArgs s__law_thing) (defBody s__law_thing) (defScope s__law_thing) .none kVd12 dcd12 pmd12 and12 cvd12 ctd12), sld12⟩)
    (cd12 : PySem.W.codeIn K cvd12 "_law_thing" = true)
    (kd12 : PySem.W.keepIn K (.ref fd12) = true)
    (ad13 : PySem.W.nsIn K mainGlobals "_law_is_vector" = some (some (.ref fd13)))
    (ld13 : K.lookup fd13 = some ⟨ocd13, odd13, .func (PySem.W.fnOf "_law_is_vector" "_law_is_vector" (defArgs s__law_is_vector) (defBody s__law_is_vector) (defScope s__law_is_vector) .none kVd13 dcd13 pmd13 and13 cvd13 ctd13), sld13⟩)
    (cd13 : PySem.W.codeIn K cvd13 "_law_is_vector" = true)
    (kd13 : PySem.W.keepIn K (.ref fd13) = true)
    (ad14 : PySem.W.nsIn K mainGlobals "_law_string" = some (some (.ref fd14)))
    (ld14 : K.lookup fd14 = some ⟨ocd14, odd14, .func (PySem.W.fnOf "_law_string" "_law_string" (defArgs s__law_string) (defBody s__law_string) (defScope s__law_string) .none kVd14 dcd14 pmd14 and14 cvd14 ctd14), sld14⟩)
    (cd14 : PySem.W.codeIn K cvd14 "_law_string" = true)
    (kd14 : PySem.W.keepIn K (.ref fd14) = true)
    (ad15 : PySem.W.nsIn K mainGlobals "_law_refused" = some (some (.ref fd15)))
    (ld15 : K.lookup fd15 = some ⟨ocd15, odd15, .func (PySem.W.fnOf "_law_refused" "_law_refused" (defArgs s__law_refused) (defBody s__law_refused) (defScope s__law_refused) .none kVd15 dcd15 pmd15 and15 cvd15 ctd15), sld15⟩)
    (cd15 : PySem.W.codeIn K cvd15 "_law_refused" = true)
    (kd15 : PySem.W.keepIn K (.ref fd15) = true)
    (ad16 : PySem.W.nsIn K mainGlobals "_law_turned" = some (some (.ref fd16)))
    (ld16 : K.lookup fd16 = some ⟨ocd16, odd16, .func (PySem.W.fnOf "_law_turned" "_law_turned" (defArgs s__law_turned) (defBody s__law_turned) (defScope s__law_turned) .none kVd16 dcd16 pmd16 and16 cvd16 ctd16), sld16⟩)
    (cd16 : PySem.W.codeIn K cvd16 "_law_turned" = true)
    (kd16 : PySem.W.keepIn K (.ref fd16) = true)
    (ad17 : PySem.W.nsIn K mainGlobals "_law_written" = some (some (.ref fd17)))
    (ld17 : K.lookup fd17 = some ⟨ocd17, odd17, .func (PySem.W.fnOf "_law_written" "_law_written" (defArgs s__law_written) (defBody s__law_written) (defScope s__law_written) .none kVd17 dcd17 pmd17 and17 cvd17 ctd17), sld17⟩)
    (cd17 : PySem.W.codeIn K cvd17 "_law_written" = true)
    (kd17 : PySem.W.keepIn K (.ref fd17) = true)
    (ad18 : PySem.W.nsIn K mainGlobals "_law_read" = some (some (.ref fd18)))
    (ld18 : K.lookup fd18 = some ⟨ocd18, odd18, .func (PySem.W.fnOf "_law_read" "_law_read" (defArgs s__law_read) (defBody s__law_read) (defScope s__law_read) .none kVd18 dcd18 pmd18 and18 cvd18 ctd18), sld18⟩)
    (cd18 : PySem.W.codeIn K cvd18 "_law_read" = true)
    (kd18 : PySem.W.keepIn K (.ref fd18) = true)
    (ad19 : PySem.W.nsIn K mainGlobals "_law_due_text" = some (some (.ref fd19)))
    (ld19 : K.lookup fd19 = some ⟨ocd19, odd19, .func (PySem.W.fnOf "_law_due_text" "_law_due_text" (defArgs s__law_due_text) (defBody s__law_due_text) (defScope s__law_due_text) .none kVd19 dcd19 pmd19 and19 cvd19 ctd19), sld19⟩)
    (cd19 : PySem.W.codeIn K cvd19 "_law_due_text" = true)
    (kd19 : PySem.W.keepIn K (.ref fd19) = true)
    (ad20 : PySem.W.nsIn K mainGlobals "_law_vector_right" = some (some (.ref fd20)))
    (ld20 : K.lookup fd20 = some ⟨ocd20, odd20, .func (PySem.W.fnOf "_law_vector_right" "_law_vector_right" (defArgs s__law_vector_right) (defBody s__law_vector_right) (defScope s__law_vector_right) .none kVd20 dcd20 pmd20 and20 cvd20 ctd20), sld20⟩)
    (cd20 : PySem.W.codeIn K cvd20 "_law_vector_right" = true)
    (kd20 : PySem.W.keepIn K (.ref fd20) = true)
    (ad21 : PySem.W.nsIn K mainGlobals "_law_text_right" = some (some (.ref fd21)))
    (ld21 : K.lookup fd21 = some ⟨ocd21, odd21, .func (PySem.W.fnOf "_law_text_right" "_law_text_right" (defArgs s__law_text_right) (defBody s__law_text_right) (defScope s__law_text_right) .none kVd21 dcd21 pmd21 and21 cvd21 ctd21), sld21⟩)
    (cd21 : PySem.W.codeIn K cvd21 "_law_text_right" = true)
    (kd21 : PySem.W.keepIn K (.ref fd21) = true)
    (ad22 : PySem.W.nsIn K mainGlobals "law" = some (some (.ref fd22)))
    (ld22 : K.lookup fd22 = some ⟨ocd22, odd22, .func (PySem.W.fnOf "law" "law" (defArgs s_law) (defBody s_law) (defScope s_law) .none kVd22 dcd22 pmd22 and22 cvd22 ctd22), sld22⟩)
    (cd22 : PySem.W.codeIn K cvd22 "law" = true)
    (kd22 : PySem.W.keepIn K (.ref fd22) = true)
    (z_len : PySem.W.nsIn K mainGlobals "len" = some none)
    (z_max : PySem.W.nsIn K mainGlobals "max" = some none)
    (z_min : PySem.W.nsIn K mainGlobals "min" = some none)
    (z_abs : PySem.W.nsIn K mainGlobals "abs" = some none)
    (z_int : PySem.W.nsIn K mainGlobals "int" = some none)
    (z_divmod : PySem.W.nsIn K mainGlobals "divmod" = some none)
    (z_range : PySem.W.nsIn K mainGlobals "range" = some none)
    (z_isinstance : PySem.W.nsIn K mainGlobals "isinstance" = some none)
    (z_repr : PySem.W.nsIn K mainGlobals "repr" = some none)
    (z_all : PySem.W.nsIn K mainGlobals "all" = some none)
    (z_bool : PySem.W.nsIn K mainGlobals "bool" = some none)
    (z_str : PySem.W.nsIn K mainGlobals "str" = some none)
    (z_tuple : PySem.W.nsIn K mainGlobals "tuple" = some none)
    (z_list : PySem.W.nsIn K mainGlobals "list" = some none)
    (z_ValueError : PySem.W.nsIn K mainGlobals "ValueError" = some none)
    (z_LookupError : PySem.W.nsIn K mainGlobals "LookupError" = some none)
    (z_RuntimeError : PySem.W.nsIn K mainGlobals "RuntimeError" = some none)
    (z_ArithmeticError : PySem.W.nsIn K mainGlobals "ArithmeticError" = some none)
    (zS : PySem.W.nsIn K mainGlobals "SIGN_TEXTS" = some (some (.str "-0+" tS)))
    (g1 : PySem.W.specialIn K (.builtin "object.__class__") "__get__" = some (some (.builtin "getset_descriptor.__get__")))
    (g2 : PySem.W.takesIn K (.builtin "object.__class__") = some true)
    (L0 : look K CV f0 [.type "ValueError", .type "Exception", .type "BaseException", .type "object"] "ValueError.__new__" ["value"] = true)
    (L1 : look K CT f1 [.type "ValueError", .type "Exception", .type "BaseException", .type "object"] "ValueError.__new__" ["value"] = true)
    (kk : kits K CV CT CP CU C1 C2 C3 = true) :
    ∃ fd : FuncData, (∀ (s : Shared) (v : Value), BindsTo s fd ⟨[v], []⟩ [("_law_script", v)]) ∧ ∀ base : Heap, K.In base → base.Ns mainGlobals mg → FnG l.prog w K mg base CX0 7 fa fd ["_law_script"] (spLaw K) := by
  have e := hfa.symm.trans (PySem.W.mg_of X G ad22)
  cases e
  have Fd0 := fun_mk (st := s_is_integer) ld0 cd0 kd0
  have bd0 := Fd0.binds (ps := ["value"]) fun _ _ _ _ _ _ us hl => match us, hl with | [_], _ => rfl
  have gd0 := PySem.W.mg_of X G ad0
  have Fd1 := fun_mk (st := s_is_sign) ld1 cd1 kd1
  have bd1 := Fd1.binds (ps := ["value"]) fun _ _ _ _ _ _ us hl => match us, hl with | [_], _ => rfl
  have gd1 := PySem.W.mg_of X G ad1
  have Fd2 := fun_mk (st := s_is_vector) ld2 cd2 kd2
  have bd2 := Fd2.binds (ps := ["value"]) fun _ _ _ _ _ _ us hl => match us, hl with | [_], _ => rfl
  have gd2 := PySem.W.mg_of X G ad2
  have Fd3 := fun_mk (st := s_turned) ld3 cd3 kd3
  have bd3 := Fd3.binds (ps := ["vector"]) fun _ _ _ _ _ _ us hl => match us, hl with | [_], _ => rfl
  have gd3 := PySem.W.mg_of X G ad3
  have Fd4 := fun_mk (st := s_sign_text) ld4 cd4 kd4
  have bd4 := Fd4.binds (ps := ["sign"]) fun _ _ _ _ _ _ us hl => match us, hl with | [_], _ => rfl
  have gd4 := PySem.W.mg_of X G ad4
  have Fd5 := fun_mk (st := s_vector_text) ld5 cd5 kd5
  have bd5 := Fd5.binds (ps := ["vector"]) fun _ _ _ _ _ _ us hl => match us, hl with | [_], _ => rfl
  have gd5 := PySem.W.mg_of X G ad5
  have Fd6 := fun_mk (st := s_read_sign) ld6 cd6 kd6
  have bd6 := Fd6.binds (ps := ["text"]) fun _ _ _ _ _ _ us hl => match us, hl with | [_], _ => rfl
  have gd6 := PySem.W.mg_of X G ad6
  have Fd7 := fun_mk (st := s_read_vector) ld7 cd7 kd7
  have bd7 := Fd7.binds (ps := ["text"]) fun _ _ _ _ _ _ us hl => match us, hl with | [_], _ => rfl
  have gd7 := PySem.W.mg_of X G ad7
  have Fd8 := fun_mk (st := s__law_rng) ld8 cd8 kd8
  have bd8 := Fd8.binds (ps := ["_law_script", "_law_k"]) fun _ _ _ _ _ _ us hl => match us, hl with | [_, _], _ => rfl
  have gd8 := PySem.W.mg_of X G ad8
  have Fd9 := fun_mk (st := s__law_draw) ld9 cd9 kd9
  have bd9 := Fd9.binds (ps := ["_law_rng_here", "_law_many"]) fun _ _ _ _ _ _ us hl => match us, hl with | [_, _], _ => rfl
  have gd9 := PySem.W.mg_of X G ad9
  have Fd10 := fun_mk (st := s__law_choice) ld10 cd10 kd10
  have bd10 := Fd10.binds (ps := ["_law_rng_here", "_law_options"]) fun _ _ _ _ _ _ us hl => match us, hl with | [_, _], _ => rfl
  have gd10 := PySem.W.mg_of X G ad10
  have Fd11 := fun_mk (st := s__law_signs) ld11 cd11 kd11
  have bd11 := Fd11.binds (ps := ["_law_rng_here"]) fun _ _ _ _ _ _ us hl => match us, hl with | [_], _ => rfl
  have gd11 := PySem.W.mg_of X G ad11
  have Fd12 := fun_mk (st := s__law_thing) ld12 cd12 kd12
  have bd12 := Fd12.binds (ps := ["_law_rng_here"]) fun _ _ _ _ _ _ us hl => match us, hl with | [_], _ => rfl
  have gd12 := PySem.W.mg_of X G ad12
  have Fd13 := fun_mk (st := s__law_is_vector) ld13 cd13 kd13
  have bd13 := Fd13.binds (ps := ["_law_thing_here"]) fun _ _ _ _ _ _ us hl => match us, hl with | [_], _ => rfl
  have gd13 := PySem.W.mg_of X G ad13
  have Fd14 := fun_mk (st := s__law_string) ld14 cd14 kd14
  have bd14 := Fd14.binds (ps := ["_law_rng_here"]) fun _ _ _ _ _ _ us hl => match us, hl with | [_], _ => rfl
  have gd14 := PySem.W.mg_of X G ad14
  have Fd15 := fun_mk (st := s__law_refused) ld15 cd15 kd15
  have bd15 := Fd15.binds (ps := ["_law_e", "_law_thing_here"]) fun _ _ _ _ _ _ us hl => match us, hl with | [_, _], _ => rfl
  have gd15 := PySem.W.mg_of X G ad15
  have Fd16 := fun_mk (st := s__law_turned) ld16 cd16 kd16
  have bd16 := Fd16.binds (ps := ["_law_thing_here", "_law_is_named"]) fun _ _ _ _ _ _ us hl => match us, hl with | [_, _], _ => rfl
  have gd16 := PySem.W.mg_of X G ad16
  have Fd17 := fun_mk (st := s__law_written) ld17 cd17 kd17
  have bd17 := Fd17.binds (ps := ["_law_thing_here", "_law_is_named"]) fun _ _ _ _ _ _ us hl => match us, hl with | [_, _], _ => rfl
  have gd17 := PySem.W.mg_of X G ad17
  have Fd18 := fun_mk (st := s__law_read) ld18 cd18 kd18
  have bd18 := Fd18.binds (ps := ["_law_thing_here", "_law_is_named"]) fun _ _ _ _ _ _ us hl => match us, hl with | [_, _], _ => rfl
  have gd18 := PySem.W.mg_of X G ad18
  have Fd19 := fun_mk (st := s__law_due_text) ld19 cd19 kd19
  have bd19 := Fd19.binds (ps := ["_law_row"]) fun _ _ _ _ _ _ us hl => match us, hl with | [_], _ => rfl
  have gd19 := PySem.W.mg_of X G ad19
  have Fd20 := fun_mk (st := s__law_vector_right) ld20 cd20 kd20
  have bd20 := Fd20.binds (ps := ["_law_thing_here", "_law_is_named"]) fun _ _ _ _ _ _ us hl => match us, hl with | [_, _], _ => rfl
  have gd20 := PySem.W.mg_of X G ad20
  have Fd21 := fun_mk (st := s__law_text_right) ld21 cd21 kd21
  have bd21 := Fd21.binds (ps := ["_law_thing_here", "_law_is_named"]) fun _ _ _ _ _ _ us hl => match us, hl with | [_, _], _ => rfl
  have gd21 := PySem.W.mg_of X G ad21
  have Fd22 := fun_mk (st := s_law) ld22 cd22 kd22
  have bd22 := Fd22.binds (ps := ["_law_script"]) fun _ _ _ _ _ _ us hl => match us, hl with | [_], _ => rfl
  have gd22 := PySem.W.mg_of X G ad22
  have T : Blt mg := ⟨PySem.W.mg_none_of X G z_len, PySem.W.mg_none_of X G z_max, PySem.W.mg_none_of X G z_min, PySem.W.mg_none_of X G z_abs, PySem.W.mg_none_of X G z_int, PySem.W.mg_none_of X G z_divmod, PySem.W.mg_none_of X G z_range, PySem.W.mg_none_of X G z_isinstance, PySem.W.mg_none_of X G z_repr, PySem.W.mg_none_of X G z_all, PySem.W.mg_none_of X G z_bool, PySem.W.mg_none_of X G z_str, PySem.W.mg_none_of X G z_tuple, PySem.W.mg_none_of X G z_list, PySem.W.mg_none_of X G z_ValueError, PySem.W.mg_none_of X G z_LookupError, PySem.W.mg_none_of X G z_RuntimeError, PySem.W.mg_none_of X G z_ArithmeticError⟩
  have U : Cst mg := ⟨⟨tS, PySem.W.mg_of X G zS⟩⟩
  unfold kits at kk
  simp only [Bool.and_eq_true, decide_eq_true_eq] at kk
  obtain ⟨q0, q1, q2, q3, q4, q5, q6, q7, q8, q9, q10, q11, q12, q13, q14, q15, q16, q17, q18, q19⟩ := kk
  have gV := PySem.W.mg_of X G a0
  have gT := PySem.W.mg_of X G a1
  have Z : Nms mg C1 C2 C3 CV CT := ⟨PySem.W.mg_of X G aC1, PySem.W.mg_of X G aC2, PySem.W.mg_of X G aC3, gV, gT⟩
  have Z4 : Cls4 K mg CP CU CV CT := ⟨PySem.W.mg_of X G aCP, PySem.W.mg_of X G aCU, q9, q19⟩
  have YV : Says K CV C1 C2 C3 CV CT true false := ⟨(look_ok L0).xc g1 g2, q0, q1, q2, q3, q4, q5, q6, q7, q8, (look_ok L0).no _ (by decide +kernel)⟩
  have YT : Says K CT C1 C2 C3 CV CT false true := ⟨(look_ok L1).xc g1 g2, q10, q11, q12, q13, q14, q15, q16, q17, q18, (look_ok L1).no _ (by decide +kernel)⟩
  refine ⟨PySem.W.fnOf "law" "law" (defArgs s_law) (defBody s_law) (defScope s_law) .none kVd22 dcd22 pmd22 and22 cvd22 ctd22, fun s v => .of_eq rfl, fun base _ _ => ?_⟩
  have OV : Own l.prog w K mg base "InvalidVector" CV ["value"] := own0 (fun_mk (st := si0) l0 c0 k0) gV i0 (look_ok L0)
  have OT : Own l.prog w K mg base "InvalidText" CT ["value"] := own1 (fun_mk (st := si1) l1 c1 k1) gT i1 (look_ok L1)
  have Gsig := ok_sign (P := l.prog) (w := w) (base := base) Fd1 T Fd0 bd0 gd0
  have Gvec := ok_vec Fd2 T Fd1 bd1 gd1 Gsig
  have Gtur := ok_turned Fd3 T OV Fd2 bd2 gd2 Gvec
  have Gtxt := ok_text Fd5 T U OV Fd2 bd2 gd2 Gvec Fd4 bd4 gd4
  have Grea := ok_read Fd7 T U OT Fd2 bd2 gd2 Gvec Fd6 bd6 gd6
  have kb1 : ∀ (s : Shared) (ws : List Value), K.In s.heap → ws.length = 1 → BindsTo s _ ⟨[], (["vector"] : List Str).zip ws⟩ ((["vector"] : List Str).zip ws) := fun s ws _ hl => match ws, hl with | [_], _ => .of_eq (fd := PySem.W.fnOf "turned" "turned" (defArgs s_turned) (defBody s_turned) (defScope s_turned) .none kVd3 dcd3 pmd3 and3 cvd3 ctd3) rfl
  have kb2 : ∀ (s : Shared) (ws : List Value), K.In s.heap → ws.length = 1 → BindsTo s _ ⟨[], (["vector"] : List Str).zip ws⟩ ((["vector"] : List Str).zip ws) := fun s ws _ hl => match ws, hl with | [_], _ => .of_eq (fd := PySem.W.fnOf "vector_text" "vector_text" (defArgs s_vector_text) (defBody s_vector_text) (defScope s_vector_text) .none kVd5 dcd5 pmd5 and5 cvd5 ctd5) rfl
  have kb3 : ∀ (s : Shared) (ws : List Value), K.In s.heap → ws.length = 1 → BindsTo s _ ⟨[], (["text"] : List Str).zip ws⟩ ((["text"] : List Str).zip ws) := fun s ws _ hl => match ws, hl with | [_], _ => .of_eq (fd := PySem.W.fnOf "read_vector" "read_vector" (defArgs s_read_vector) (defBody s_read_vector) (defScope s_read_vector) .none kVd7 dcd7 pmd7 and7 cvd7 ctd7) rfl
  have Gref := ok_refused (P := l.prog) (w := w) (base := base) Fd15 T Z
  have Gt := ok_turnedT Fd16 T Z4 YV YT Fd3 bd3 gd3 Gtur kb1 Fd15 bd15 gd15 Gref
  have Gw := ok_writtenT Fd17 T Z4 YV YT Fd5 bd5 gd5 Gtxt kb2 Fd15 bd15 gd15 Gref
  have Gr := ok_readT Fd18 T Z4 YV YT Fd7 bd7 gd7 Grea kb3 Fd15 bd15 gd15 Gref
  have Gv := ok_vright Fd20 T Fd16 bd16 gd16 Gt Fd17 bd17 gd17 Gw Fd13 bd13 gd13 Fd19 bd19 gd19 Fd3 bd3 gd3 Gtur Fd5 bd5 gd5 Gtxt Fd7 bd7 gd7 Grea
  have Gx := ok_tright Fd21 T Fd18 bd18 gd18 Gr Fd5 bd5 gd5 Gtxt Fd7 bd7 gd7 Grea
  have G1 := ok_signs (P := l.prog) (w := w) (base := base) Fd11 T Fd9 bd9 gd9
  have G2 := ok_thing (P := l.prog) (w := w) (base := base) Fd12 T Fd9 bd9 gd9 Fd10 bd10 gd10 Fd11 bd11 gd11
  have G3 := ok_string (P := l.prog) (w := w) (base := base) Fd14 T Fd9 bd9 gd9 Fd10 bd10 gd10
  exact ok_law Fd22 T Fd8 bd8 gd8 Fd11 bd11 gd11 G1 Fd12 bd12 gd12 G2 Fd14 bd14 gd14 G3 Fd20 bd20 gd20 Gv Fd21 bd21 gd21 Gx
end K13

set_option Elab.async false
set_option maxRecDepth 100000
set_option maxHeartbeats 0
section
open PySem PySem.W PyProof.Rows
open_top head_k13 for PySem.Challenge.rw_pairsigns_k13_vectors_and_texts
end
open PySem PySem.W PyProof.Rows
set_option maxRecDepth 100000 in
set_option maxHeartbeats 0 in
theorem PySem.Challenge.cw_pairsigns_k13_vectors_and_texts_holds : PySem.Challenge.rw_pairsigns_k13_vectors_and_texts.Holds :=
  head_k13 (by
  k_fill
  refine PSG.walkG (l := PySem.Challenge.rw_pairsigns_k13_vectors_and_texts) (m := 63) (n := 7) (x := "_law_script") (CT := fun _ => L2.CX0) (sp := fun w => K13.spLaw _) rfl (by decide) rfl ⟨rfl, by decide, by decide⟩ (fun w h Y => PySem.W.kIn_of Y) ?F (fun _ _ a ns hl _ hS => ⟨a, ns, rfl, hS, hl, fun _ => rfl⟩) (fun _ _ _ _ _ h => h)
  case F =>
    intro w mg fa h KX G hmg
    refine' K13.all_mk KX G hmg ?a0 ?i0 ?l0 ?c0 ?k0 ?a1 ?i1 ?l1 ?c1 ?k1 ?aCP ?aCU ?aC1 ?aC2 ?aC3 ?ad0 ?ld0 ?cd0 ?kd0 ?ad1 ?ld1 ?cd1 ?kd1 ?ad2 ?ld2 ?cd2 ?kd2 ?ad3 ?ld3 ?cd3 ?kd3 ?ad4 ?ld4 ?cd4 ?kd4 ?ad5 ?ld5 ?cd5 ?kd5 ?ad6 ?ld6 ?cd6 ?kd6 ?ad7 ?ld7 ?cd7 ?kd7 ?ad8 ?ld8 ?cd8 ?kd8 ?ad9 ?ld9 ?cd9 ?kd9 ?ad10 ?ld10 ?cd10 ?kd10 ?ad11 ?ld11 ?cd11 ?kd11 ?ad12 ?ld12 ?cd12 ?kd12 ?ad13 ?ld13 ?cd13 ?kd13 ?ad14 ?ld14 ?cd14 ?kd14 ?ad15 ?ld15 ?cd15 ?kd15 ?ad16 ?ld16 ?cd16 ?kd16 ?ad17 ?ld17 ?cd17 ?kd17 ?ad18 ?ld18 ?cd18 ?kd18 ?ad19 ?ld19 ?cd19 ?kd19 ?ad20 ?ld20 ?cd20 ?kd20 ?ad21 ?ld21 ?cd21 ?kd21 ?ad22 ?ld22 ?cd22 ?kd22 ?z_len ?z_max ?z_min ?z_abs ?z_int ?z_divmod ?z_range ?z_isinstance ?z_repr ?z_all ?z_bool ?z_str ?z_tuple ?z_list ?z_ValueError ?z_LookupError ?z_RuntimeError ?z_ArithmeticError ?zS ?g1 ?g2 ?L0 ?L1 ?kk
    (case a0 => k_is)
    (case i0 => k_is)
    (case l0 => k_is)
    (case c0 => k_is)
    (case k0 => k_is)
    (case a1 => k_is)
    (case i1 => k_is)
    (case l1 => k_is)
    (case c1 => k_is)
    (case k1 => k_is)
    (case aCP => k_is)
    (case aCU => k_is)
    (case aC1 => k_is)
    (case aC2 => k_is)
    (case aC3 => k_is)
    (case ad0 => k_is)
    (case ld0 => k_is)
    (case cd0 => k_is)
    (case kd0 => k_is)
    (case ad1 => k_is)
    (case ld1 => k_is)
    (case cd1 => k_is)
    (case kd1 => k_is)
    (case ad2 => k_is)
    (case ld2 => k_is)
    (case cd2 => k_is)
    (case kd2 => k_is)
    (case ad3 => k_is)
    (case ld3 => k_is)
    (case cd3 => k_is)
    (case kd3 => k_is)
    (case ad4 => k_is)
    (case ld4 => k_is)
    (case cd4 => k_is)
    (case kd4 => k_is)
    (case ad5 => k_is)
    (case ld5 => k_is)
    (case cd5 => k_is)
    (case kd5 => k_is)
    (case ad6 => k_is)
    (case ld6 => k_is)
    (case cd6 => k_is)
    (case kd6 => k_is)
    (case ad7 => k_is)
    (case ld7 => k_is)
    (case cd7 => k_is)
    (case kd7 => k_is)
    (case ad8 => k_is)
    (case ld8 => k_is)
    (case cd8 => k_is)
    (case kd8 => k_is)
    (case ad9 => k_is)
    (case ld9 => k_is)
    (case cd9 => k_is)
    (case kd9 => k_is)
    (case ad10 => k_is)
    (case ld10 => k_is)
    (case cd10 => k_is)
    (case kd10 => k_is)
    (case ad11 => k_is)
    (case ld11 => k_is)
    (case cd11 => k_is)
    (case kd11 => k_is)
    (case ad12 => k_is)
    (case ld12 => k_is)
    (case cd12 => k_is)
    (case kd12 => k_is)
    (case ad13 => k_is)
    (case ld13 => k_is)
    (case cd13 => k_is)
    (case kd13 => k_is)
    (case ad14 => k_is)
    (case ld14 => k_is)
    (case cd14 => k_is)
    (case kd14 => k_is)
    (case ad15 => k_is)
    (case ld15 => k_is)
    (case cd15 => k_is)
    (case kd15 => k_is)
    (case ad16 => k_is)
    (case ld16 => k_is)
    (case cd16 => k_is)
    (case kd16 => k_is)
    (case ad17 => k_is)
    (case ld17 => k_is)
    (case cd17 => k_is)
    (case kd17 => k_is)
    (case ad18 => k_is)
    (case ld18 => k_is)
    (case cd18 => k_is)
    (case kd18 => k_is)
    (case ad19 => k_is)
    (case ld19 => k_is)
    (case cd19 => k_is)
    (case kd19 => k_is)
    (case ad20 => k_is)
    (case ld20 => k_is)
    (case cd20 => k_is)
    (case kd20 => k_is)
    (case ad21 => k_is)
    (case ld21 => k_is)
    (case cd21 => k_is)
    (case kd21 => k_is)
    (case ad22 => k_is)
    (case ld22 => k_is)
    (case cd22 => k_is)
    (case kd22 => k_is)
    (case z_len => k_is)
    (case z_max => k_is)
    (case z_min => k_is)
    (case z_abs => k_is)
    (case z_int => k_is)
    (case z_divmod => k_is)
    (case z_range => k_is)
    (case z_isinstance => k_is)
    (case z_repr => k_is)
    (case z_all => k_is)
    (case z_bool => k_is)
    (case z_str => k_is)
    (case z_tuple => k_is)
    (case z_list => k_is)
    (case z_ValueError => k_is)
    (case z_LookupError => k_is)
    (case z_RuntimeError => k_is)
    (case z_ArithmeticError => k_is)
    (case zS => k_is)
    (case g1 => k_is)
    (case g2 => k_is)
    (case L0 => kernel_rfl)
    (case L1 => kernel_rfl)
    (case kk => kernel_rfl))
