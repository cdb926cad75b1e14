import PyProof.Rows.All
import Wide.All
import OpenK.AllK
import Wide.FinOn
import HandS.Base
import HandS.Call
import HandS.List
import HandS.Comp
import HandS.Dict
import HandS.Iter
import HandS.Text
import HandS.Ends
import HandS.Exc
import HandS.ExcOwn
import HandS.TryOnly
import HandS.TryMany
import HandS.ExcInit
import HandS.ExcField
import HandS.ExcIs
import HandS.IsInst
import HandS.WideBits
import HandS.ForMost
import HandS.WordsExc
import KE.KTryMore
import KE.KExcHand
import KE.KExcInit
import HandS.Small
import HandS.SetFor
import PySem.Challenge.RW_pairsigns_k11_errors_created
set_option linter.all false
set_option Elab.async false
set_option linter.all false
set_option maxRecDepth 100000
set_option maxHeartbeats 4000000
namespace PSG
open PySem PySem.Spec PyProof.Rows L2
/-! ### promises of defs that know that no repr is under way -/
structure FnG (P : Program) (w : World) (K : PySem.W.Frag) (mg : Str → Option Value) (base : Heap) (CT : CXT) (n : Nat) (at_ : Addr) (fd : FuncData) (ps : List Str) (sp : Sp) : Prop where
  many : ∀ vs H Q E, sp vs H Q E → vs.length = ps.length
  goes : ∀ (B : Around) (up : List Env) (s : Shared) (H : Hp) (ar : Args) (us : List Value) (vs : List V) (Q : VK) (E : XK),
    Room n B → B.guards = some [] → Env0 P w K mg base B up s H →
    BindsTo s fd ar (ps.zip us) → Vals vs us → sp vs H Q E →
    codeAny (model P w) B (.call (.ref at_) ar) (CR CT up P w H s Q E) s
section
variable {P : Program} {w : World} {K : PySem.W.Frag} {mg : Str → Option Value} {base : Heap} {CT : CXT}
theorem FnG.of {n : Nat} {at_ : Addr} {fd : FuncData} {ps : List Str} {sp : Sp} (F : FnOk P w K mg base CT n at_ fd ps sp) : FnG P w K mg base CT n at_ fd ps sp :=
  ⟨F.len, fun B up s H ar us vs Q E r _ => F.run B up s H ar us vs Q E r⟩
theorem fnG {n : Nat} {at_ : Addr} {nm ql : Str} {pa : Arguments} {bd : List Stmt} {sc : Scope} {dv kv dc pm cv ct oc : Value} {an od : Option Addr}
    {sl : Array (Option Value)} {N ps : List Str} {sp : Sp}
    (found : K.lookup at_ = some ⟨oc, od, .func (PySem.W.fnOf nm ql pa bd sc dv kv dc pm an cv ct), sl⟩)
    (code : PySem.W.codeIn K cv ql = true) (S : FnScope N ps sc) (many : ∀ vs H Q E, sp vs H Q E → vs.length = ps.length)
    (main : ∀ (B : Around) (up : List Env) (s : Shared) (H : Hp) (vs : List V) (Q : VK) (E : XK),
      Room n (B.deeper (envOfC ql sc s.heap.objs.size at_ cv)) → B.guards = some [] → sp vs H Q E →
      ∃ t, PSs (cxOf CT P w K mg base N ql sc at_ cv B up s H E) bd t ∧ t { nx := fun _ G => Q .non G, rt := Q } (start N vs) H) :
    FnG P w K mg base CT (n + 1) at_ (PySem.W.fnOf nm ql pa bd sc dv kv dc pm an cv ct) ps sp where
  many := many
  goes := by
    intro B up s H ar us vs Q E room gd en bi va ho
    have keepB : ∀ b o, base.get? b = some o → s.heap.get? b = some o := fun b o z => (en.bs b o z).1
    have atK := en.mod.kin.keeps keepB
    refine codeAny_call_function room.depth (atK _ _ found) rfl S.co S.gen rfl (PySem.W.codeRec_of atK code) (bi _ _ _ _ ?_)
    refine wpAny_newFunctionEnv_cells S.kind (fun y hy => ?_) fun env he t1 x => ?_
    · obtain ⟨n, v⟩ := y
      cases S.par n (List.of_mem_zip hy).1 with
      | inl z => exact .inl z
      | inr z => exact .inr ⟨z, PySem.W.cellsFrom_some _ _ _ (.inl z)⟩
    · cases he
      refine ⟨(en.mod.nolimit.keeps keepB).keeps x.toInCall.keep, codeAny_func ?_⟩
      obtain ⟨t, der, rd⟩ := main B up s H vs Q E (room.deeper _) gd ho
      have J := inv_start (CX := CT) (E := E) S room.hd en (many _ _ _ _ ho) va x
      refine wpAny_mono (der.run [] t1 _ H _ J rd) ?_ fun _ _ z => z
      intro fl t2 z
      cases fl with
      | next =>
        obtain ⟨_, G, J2, q⟩ := z
        exact ⟨V.non, G, J2.os, J2.bare, J2.base, J2.hok, rfl, q⟩
      | ret u =>
        obtain ⟨v, _, G, J2, rel, q⟩ := z
        exact ⟨v, G, J2.os, J2.bare, J2.base, J2.hok, rel, q⟩
      | brk => exact (show False from z.choose_spec.choose_spec.2).elim
      | cont => exact (show False from z.choose_spec.choose_spec.2).elim
end
section
variable {X : Cx} {CT : CXT} {n : Nat} {at_ : Addr} {fd : FuncData} {ps : List Str} {sp : Sp} {dvs : List V} {ds : List Value} {E : XK} {x : Str} {p pos : Pos} {e : Expr} {es : List Expr} {t : TA}
theorem run_g {pins : List (Addr × Obj)} {σ : L2.St} {H : Hp} {s : Shared} {Q : VK} {us : List Value} {vs : List V}
    (F : FnG X.prog X.w X.K X.mg X.base CT n at_ fd ps sp) (room : Room n X.A) (gd : X.A.guards = some []) (bi : Binds X.K fd ps ds) (dv : Vals dvs ds) (pass : Passes CT X E)
    (I : Inv X pins σ H s) (va : Vals vs us) (ho : sp (vs ++ dvs) H Q E) : wpAny (model X.prog X.w) X.A (call (.ref at_) us) (EP X pins σ Q) X.xe s := by
  have va2 := va.append dv
  have many : (us ++ ds).length = ps.length := va2.length.symm.trans (F.many _ _ _ _ ho)
  refine wpAny_call (codeAny_mono (F.goes X.A X.stack s H ⟨us, []⟩ (us ++ ds) (vs ++ dvs) Q E room gd I.env0 (bi s us I.kIn many) va2 ho) ?_)
  intro r t2 z
  match r, z with
  | .error er, z => exact pass pins σ H s er t2 I z
  | .ok (.ret u), z => exact I.after z
theorem pe_callG (F : FnG X.prog X.w X.K X.mg X.base CT n at_ fd ps sp) (room : Room n X.A) (gd : X.A.guards = some []) (hg : Gl X x) (hm : X.mg x = some (.ref at_)) (kp : PySem.W.keepIn X.K (.ref at_) = true)
    (bi : Binds X.K fd ps ds) (dv : Vals dvs ds) (pass : Passes CT X E) (ha : PA X (e :: es) t) (nd : (x == ("__debug__" : Str)) = false := by decide)
    (se : starEach (e :: es) X.env = (false, eval e X.env) :: starEach es X.env := by rfl) (sn : (backTo pos (starEach es X.env)).any (·.1) = false := by rfl) :
    PE X (.Call (.Name x p) (e :: es) [] pos) (tCall sp dvs E t) where
  run := fun pins s σ H Q I ho => wpAny_Call_Name_kw (ld_glob I hg hm (PySem.W.callWith_K (h₀ := X.base) I.ok.mod.kin kp
    (thn (ha.run pos pins s σ H _ I ho) fun us s1 ⟨vs, H1, I1, r, q⟩ => ⟨I1.kIn, run_g F room gd bi dv pass I1 r q⟩) se sn) nd)
end
end PSG

set_option Elab.async false
set_option linter.all false
set_option maxRecDepth 100000
set_option maxHeartbeats 4000000
namespace PSG
open PySem PySem.Spec L2
open PyProof.Rows (IntsAre AllBare)
/-! ### data with flat dicts, and repr -/
/-- a key as data -/
def keyD : Key → PyData
  | .inl i => .int i
  | .inr x => .str x
/-- a value that is no object, as data -/
def flatD : V → Option PyData
  | .non => some .none
  | .bl b => some (.bool b)
  | .int i => some (.int i)
  | .str x => some (.str x)
  | _ => none
mutual
/-- a value that is data, all of it tracked -/
inductive Dt (far : Bool) (H : Hp) : V → PyData → Prop
  | non : Dt far H .non .none
  | bl (b : Bool) : Dt far H (.bl b) (.bool b)
  | int (i : Int) : Dt far H (.int i) (.int i)
  | str (x : Str) : Dt far H (.str x) (.str x)
  | lst {a : Addr} {xs : List V} {ds : List PyData} : H a = some (.lst xs) → (far = true → a ≠ sysModules) → DtAll far H xs ds → Dt far H (.ref a) (.list ds)
  | tup {a : Addr} {xs : List V} {ds : List PyData} : H a = some (.tup xs) → DtAll far H xs ds → Dt far H (.ref a) (.tuple ds)
  | dict {a : Addr} {kvs : List (Key × V)} {kds : List (Key × PyData)} : H a = some (.dK kvs) → Paired (fun p q => p.1 = q.1 ∧ flatD p.2 = some q.2) kvs kds →
      Dt far H (.ref a) (.dict (kds.map fun q => (keyD q.1, q.2)))
inductive DtAll (far : Bool) (H : Hp) : List V → List PyData → Prop
  | nil : DtAll far H [] []
  | cons {v : V} {vs : List V} {d : PyData} {ds : List PyData} : Dt far H v d → DtAll far H vs ds → DtAll far H (v :: vs) (d :: ds)
end
mutual
def hasList : PyData → Bool
  | .list _ => true
  | .tuple xs => hasListAll xs
  | _ => false
def hasListAll : List PyData → Bool
  | [] => false
  | x :: xs => hasList x || hasListAll xs
end
theorem flat_reads {h : Heap} {v : V} {u : Value} {d : PyData} (e : flatD v = some d) (r : RelV v u) : Reads h u d [] := by
  cases v with
  | non => cases e; cases r; exact .none
  | bl b => cases e; cases r; exact .bool b
  | int i => cases e; obtain ⟨t, rfl⟩ := r; exact .int i t
  | str x => cases e; obtain ⟨t, rfl⟩ := r; exact .str x t
  | byt _ => cases e
  | flt _ => cases e
  | ref _ => cases e
  | ty _ => cases e
theorem key_reads {h : Heap} {k : Key} {u : Value} (e : keyIs k u = true) : Reads h u (keyD k) [] := by
  rcases keyIs_shape e with ⟨i, t, rfl, rfl⟩ | ⟨x, t, rfl, rfl⟩
  · exact .int i t
  · exact .str x t
theorem dict_reads {P : Program} {w : World} {h : Heap} : ∀ {kvs : List (Key × V)} {kds : List (Key × PyData)} {vs : List (Key × Value)} {es : List DictEntry},
    Paired (fun p q => p.1 = q.1 ∧ flatD p.2 = some q.2) kvs kds → KV kvs vs → Pairs (mixKind P w) es vs →
    ReadsAll h (es.map (·.key)) ((kds.map fun q => (keyD q.1, q.2)).map (·.1)) [] ∧ ReadsAll h (es.map (·.val)) ((kds.map fun q => (keyD q.1, q.2)).map (·.2)) []
  | _, _, _, _, .nil, .nil, .nil => ⟨.nil, .nil⟩
  | _, _, _, _, .cons ⟨e1, f⟩ t1, .cons ⟨e2, r⟩ t2, .cons k v t3 => by
    obtain ⟨i1, i2⟩ := dict_reads (h := h) t1 t2 t3
    have k' : keyIs _ _ = true := k
    rw [← e2, e1] at k'
    refine ⟨ReadsAll.cons (as := []) (key_reads k') i1, ReadsAll.cons (as := []) ?_ i2⟩
    dsimp only
    rw [v]
    exact flat_reads f r
section
variable {X : Cx} {pins : List (Addr × Obj)} {σ : L2.St} {H : Hp} {s : Shared}
mutual
/-- such data is read; where it has no list, sys.modules is not within -/
theorem Dt.reads {far : Bool} (I : Inv X pins σ H s) : ∀ {d : PyData} {v : V} {u : Value}, Dt far H v d → RelV v u → ∃ as, Reads s.heap u d as ∧ ((far = true ∨ hasList d = false) → sysModules ∉ as)
  | _, _, _, .non, r => by cases r; exact ⟨_, .none, fun _ m => nomatch m⟩
  | _, _, _, .bl b, r => by cases r; exact ⟨_, .bool b, fun _ m => nomatch m⟩
  | _, _, _, .int i, r => by obtain ⟨t, rfl⟩ := r; exact ⟨_, .int i t, fun _ m => nomatch m⟩
  | _, _, _, .str x, r => by obtain ⟨t, rfl⟩ := r; exact ⟨_, .str x t, fun _ m => nomatch m⟩
  | _, _, _, .lst (a := a) (xs := xs) e fr t, r => by
    cases r
    obtain ⟨_, its, n, rv, ho⟩ := I.hok a (.lst xs) e
    obtain ⟨as, z, n1⟩ := DtAll.reads I t rv
    refine ⟨_, Reads.list ho rfl rfl z, fun no m => ?_⟩
    rcases no with no | no
    · rcases List.mem_cons.mp m with m | m
      · exact fr no m.symm
      · exact n1 (.inl no) m
    · simp [hasList] at no
  | _, _, _, .tup (a := a) (xs := xs) e t, r => by
    cases r
    obtain ⟨_, its, rv, o, ho, hc, n, hd⟩ := I.hok a (.tup xs) e
    obtain ⟨as, z, no⟩ := DtAll.reads I t rv
    exact ⟨_, Reads.tuple ho hc hd z, fun q => no (by simpa [hasList] using q)⟩
  | _, _, _, .dict (a := a) (kvs := kvs) e pr, r => by
    cases r
    obtain ⟨_, low, vs, kv, o, es, ep, ho, hx, hd, _, pa, _⟩ := dk_of I.hok e
    obtain ⟨z1, z2⟩ := dict_reads (h := s.heap) pr kv pa
    refine ⟨_, Reads.dict ho hx.1 hd z1 z2, fun _ m => ?_⟩
    rw [List.mem_append] at m
    rcases m with m | m
    · rcases List.mem_cons.mp m with m | m
      · rw [← m] at low
        simp at low
      · cases m
    · cases m
theorem DtAll.reads {far : Bool} (I : Inv X pins σ H s) : ∀ {ds : List PyData} {vs : List V} {us : List Value}, DtAll far H vs ds → Vals vs us → ∃ as, ReadsAll s.heap us ds as ∧ ((far = true ∨ hasListAll ds = false) → sysModules ∉ as)
  | _, _, _, .nil, r => by cases r; exact ⟨_, .nil, fun _ m => nomatch m⟩
  | _, _, _, .cons h t, r => by
    cases r with
    | cons r1 r2 =>
      obtain ⟨as, z1, n1⟩ := Dt.reads I h r1
      obtain ⟨bs, z2, n2⟩ := DtAll.reads I t r2
      refine ⟨_, .cons z1 z2, fun no m => ?_⟩
      simp only [hasListAll, Bool.or_eq_false_iff] at no
      rcases List.mem_append.mp m with m | m
      · exact n1 (no.imp id And.left) m
      · exact n2 (no.imp id And.right) m
end
end
/-- repr(x) of data -/
def rRep : List V → Hp → VK → Prop := fun xs H Q => ∃ x d far, xs = [x] ∧ Dt far H x d ∧ (d.hasDict = true → far = true ∨ hasList d = false) ∧ d.showable = true ∧ d.shown.length ≤ sizeLine ∧ d.depth ≤ 60 ∧ Q (.str d.shown) H
section
variable {X : Cx}
theorem call_repr {n : Nat} (room : Room n X.A) (gd : X.A.guards = some []) : CallR X (.builtin "repr") rRep := by
  intro pins s σ H xs us Q I r ho
  obtain ⟨x, d, far, rfl, dq, cl, sh, sz, dp, q⟩ := ho
  cases r with
  | @cons _ u _ ws rx rr =>
    cases rr
    obtain ⟨as, rd, no1⟩ := dq.reads I rx
    have nosys : d.hasDict = true → sysModules ∉ as := fun z => no1 (cl z)
    have un := room.un
    cases rd with
    | none =>
      exact P.repr_of_none ⟨.str _, H, I.tok _, ⟨_, rfl⟩, by simpa only [PyData.shown] using q⟩
    | bool b =>
      refine P.repr_of_bool ⟨.str _, H, I.tok _, ⟨_, rfl⟩, ?_⟩
      simp only [PyData.shown] at q
      cases b
      · exact q
      · exact q
    | int i t =>
      exact P.repr_of_int (by simpa [PyData.showable] using sh) ⟨.str _, H, I.tok _, ⟨_, rfl⟩, by simpa only [PyData.shown] using q⟩
    | str z t =>
      simp only [PyData.shown] at q sz
      exact P.repr_of_str ⟨.str _, H, I.tok _, ⟨_, rfl⟩, q⟩ sz
    | list h1 h2 h3 h4 =>
      exact repr_of_reads' (Reads.list h1 h2 h3 h4) sh nosys gd (by omega) (fun _ _ z => z) (fun h' u tk k => ⟨.str _, H, I.kept k, ⟨_, rfl⟩, q⟩) sz
    | tuple h1 h2 h3 h4 =>
      exact repr_of_reads' (Reads.tuple h1 h2 h3 h4) sh nosys gd (by omega) (fun _ _ z => z) (fun h' u tk k => ⟨.str _, H, I.kept k, ⟨_, rfl⟩, q⟩) sz
    | dict h1 h2 h3 h4 h5 =>
      exact repr_of_reads' (Reads.dict h1 h2 h3 h4 h5) sh nosys gd (by omega) (fun _ _ z => z) (fun h' u tk k => ⟨.str _, H, I.kept k, ⟨_, rfl⟩, q⟩) sz
end
/-! ### the law's own end -/
theorem hidT_ns {h : Heap} {H : Hp} {b : Addr} {m : Str → Option Value} (z : h.Ns b m) (free : ∀ (o : Obj) (es : Array DictEntry) (ep : Nat), h.get? b = some o → o.data = .dict es ep → H b = none) : (hidT h H).Ns b m := by
  obtain ⟨o, es, ep, e, d, r⟩ := z
  exact ⟨o, es, ep, hidT_get e (free o es ep e d), d, r⟩
theorem lawG_call {P : Program} {w : World} {K : PySem.W.Frag} {mg mb : Str → Option Value} {CT : CXT} {n : Nat} {fa a : Addr} {fd : FuncData} {x : Str} {sp : Sp} {s₁ : Shared} {vs : List Value} {ns : List Int}
    (atK : K.In s₁.heap) (glob : s₁.heap.Ns mainGlobals mg) (blt : s₁.heap.Ns builtinsNs mb) (boot : ∀ x : Str, x ≠ "__name__" → mb x = bootBuiltins x) (lim : s₁.heap.NoLimit) (gens : s₁.gens = #[])
    (ob : s₁.heap.get? a = some { cls := .type "list", data := .seq vs.toArray }) (nums : IntsAre vs ns) (len : ns.length ≤ sizeLine) (room : Room n callerA)
    (F : ∀ base : Heap, K.In base → base.Ns mainGlobals mg → FnG P w K mg base CT n fa fd [x] sp) (bi : ∀ (s : Shared) (u : Value), BindsTo s fd ⟨[u], []⟩ [(x, u)])
    (ho : ∀ H : Hp, Only H → SqL K H a (ns.map V.int) → sp [.ref a] H (fun v _ => v = .bl true) fun _ _ _ => False)
    (none_out : ∀ H e s', CT [] H s₁ (fun _ _ _ => False) e s' → False) :
    codeAny (model P w) callerA (.call (.ref fa) ⟨[.ref a], []⟩) (fun r s' => r = .ok (.ret (.bool true)) ∧ OldK s₁.heap s'.heap ∧ s'.os = s₁.os ∧ AllBare s'.gens) s₁ := by
  have main : ∀ H : Hp, Only H → SqL K H a (ns.map V.int) → HOk P w H s₁.heap → (∀ b, b ≠ a → H b = none) → (K.lookup a = none ∨ H a = none) →
      codeAny (model P w) callerA (.call (.ref fa) ⟨[.ref a], []⟩) (fun r s' => r = .ok (.ret (.bool true)) ∧ OldK s₁.heap s'.heap ∧ s'.os = s₁.os ∧ AllBare s'.gens) s₁ := by
    intro H only sq hok off at_
    have free : ∀ (b : Addr) (o : Obj) (es : Array DictEntry) (ep : Nat), s₁.heap.get? b = some o → o.data = .dict es ep → H b = none := by
      intro b o es ep e d
      by_cases hb : b = a
      · rw [hb, ob] at e
        cases e
        cases d
      · exact off b hb
    have inB : K.In (hidT s₁.heap H) := by
      intro b o e
      refine hidT_get (atK b o e) ?_
      by_cases hb : b = a
      · rcases at_ with z | z
        · rw [hb, z] at e
          cases e
        · rw [hb]
          exact z
      · exact off b hb
    have nsB : (hidT s₁.heap H).Ns mainGlobals mg := hidT_ns glob (free _)
    obtain ⟨mc, l1, l2⟩ := lim
    have mod : L2.Mod K mg (hidT s₁.heap H) := ⟨inB, nsB, ⟨mb, hidT_ns blt (free _), boot⟩, ⟨mc, hidT_ns l1 (free _), l2⟩⟩
    have en : Env0 P w K mg (hidT s₁.heap H) callerA [] s₁ H :=
      ⟨rfl, mod, fun b o z => of_hidT z, Nat.le_of_eq (hidT_size _ _), trivial, fun b z => (List.not_mem_nil z).elim, hok, .of_eq gens⟩
    refine codeAny_mono ((F _ inB nsB).goes callerA [] s₁ H ⟨[.ref a], []⟩ [.ref a] [.ref a] _ _ room rfl en (bi s₁ (.ref a)) (.cons rfl .nil) (ho H only sq)) ?_
    intro r s' z
    match r, z with
    | .error er, z => exact (none_out H er s' z).elim
    | .ok (.ret u), z =>
      obtain ⟨v, G, os, bare, un, hok', rel, rfl⟩ := z
      cases rel
      refine ⟨rfl, OldK.of_keep fun b o e => ?_, os, bare⟩
      rcases only b with q | ⟨ob2, ys, q⟩
      · exact un.keep b o e q (fun z => List.not_mem_nil z) (fun z => List.not_mem_nil z)
      · have e1 := (hok b _ q).1
        have e2 := (hok' b _ (un.frzs b ob2 _ q)).1
        rw [e] at e1
        cases e1
        exact e2
  cases there : K.lookup a with
  | some o =>
    have e := (atK a o there).symm.trans ob
    cases e
    exact main (fun _ => none) (fun _ => .inl rfl) (.inr ⟨_, vs.toArray, _, there, rfl, rfl, rfl, by rw [List.size_toArray, nums.length]; exact len, by simpa using vals_ints nums⟩) (fun b u z => nomatch z) (fun _ _ => rfl) (.inr rfl)
  | none =>
    refine main (upd (fun _ => none) a (.frz { cls := .type "list", data := .seq vs.toArray } (.lst (ns.map V.int)))) (fun b => ?_) (.inl (.inr ⟨_, upd_same⟩)) (fun b u z => ?_) (fun b hb => upd_ne hb) (.inl there)
    · by_cases hb : b = a
      · rw [hb]
        exact .inr ⟨_, _, upd_same⟩
      · exact .inl (upd_ne hb)
    · by_cases hb : b = a
      · rw [hb, upd_same] at z
        cases z
        rw [hb]
        exact ⟨ob, by rw [List.length_map]; exact len, vs, _, vals_ints nums, ob⟩
      · rw [upd_ne hb] at z
        cases z
theorem walkG {l : PySem.W.OpenLaw} {m n : Nat} {q : Program} {loose : List Str} {XP : (Str → Option Value) → Heap → Prop} {YP : World → Heap → Prop} {d : DefRec} {K : Params → PySem.W.Frag} {CT : World → CXT} {sp : World → Sp} {x : Str}
    (most : l.most = some m) (fits : m ≤ sizeLine) (nodef : d.params.defaults = []) (room : Room n callerA) (inn : ∀ (w : World) (h : Heap), YP w h → (K w.params).In h)
    (F : ∀ (w : World) (mg : Str → Option Value) (fa : Addr) (h : Heap), (K w.params).In h → h.Ns mainGlobals mg → mg d.name = some (.ref fa) →
      ∃ fd : FuncData, (∀ (s : Shared) (u : Value), BindsTo s fd ⟨[u], []⟩ [(x, u)]) ∧ ∀ base : Heap, (K w.params).In base → base.Ns mainGlobals mg → FnG l.prog w (K w.params) mg base (CT w) n fa fd [x] (sp w))
    (ho : ∀ (w : World) (H : Hp) (a : Addr) (ns : List Int), ns.length ≤ m → Only H → SqL (K w.params) H a (ns.map V.int) → sp w [.ref a] H (fun v _ => v = .bl true) fun _ _ _ => False)
    (none_out : ∀ (w : World) (H : Hp) (s : Shared) (e : Value) (s' : Shared), CT w [] H s (fun _ _ _ => False) e s' → False) :
    PySem.W.WalkO q loose XP YP l.row.toRowW d [] (fun f vs => PySem.call f vs) := by
  refine Att.attach_call most nodef ?_
  intro w s₀ s₁ mg mb fa o pm cd doc a vs ns G Y _ _ _ isAt ob nums len gens
  obtain ⟨fd, bi, good⟩ := F w mg fa _ (inn w _ Y) G.T.g isAt
  exact lawG_call (inn w _ Y) G.T.g G.T.b G.T.builtins G.T.nolimit gens ob nums (Nat.le_trans len fits) room good bi (fun H h1 h2 => ho w H a ns len h1 h2) fun H e s' => none_out w H s₁ e s'
end PSG

set_option Elab.async false
set_option linter.all false
set_option maxRecDepth 100000
set_option maxHeartbeats 4000000
namespace PSG
open PySem PySem.Spec L2
open PyProof.Rows (IntsAre AllBare)
/-! ### try with several clauses, names or pairs of names as their classes, with or without «as» -/
theorem upToSlots_more {h h' : Heap} (k : ∀ q o, h.get? q = some o → h'.get? q = some o) : h.UpToSlots h' := fun b o e _ => ⟨o.slots, k b o e⟩
theorem flying_more {base h h' : Heap} {l : List Env} {e : Addr} {Z : Obj → Prop} (x : PySem.HandSPX.FlyingZ base l e Z h) (k : ∀ q o, h.get? q = some o → h'.get? q = some o) : PySem.HandSPX.FlyingZ base l e Z h' := by
  obtain ⟨st, nb, ff, oe, vs, T, oT, ts, he, z, hv, h1, hT, ne, gT, hts, h3⟩ := x
  exact ⟨fun b o q => k b o (st b o q), nb, ff.of_keeps fun b o q _ => ⟨o, k b o q, rfl⟩, oe, vs, T, oT, ts, k _ _ he, z, hv, h1, hT, ne, k _ _ gT, hts, h3⟩
/-- the test of a clause: ok tells of which classes it is answered how -/
def Asks (X : Cx) (t : Expr) (ok : Value → Bool → Prop) : Prop :=
  ∀ (a : Addr) (oe : Obj) (cls : Value) (d : Option Addr) (pn pins : List (Addr × Obj)) (σ : L2.St) (H : Hp) (s : Shared) (Q : Value → Shared → Prop) (E : Value → Shared → Prop) (b : Bool),
    Zc cls d oe → (∃ vs, oe.data = .fields vs) → Inv (X.suite a ((a, oe) :: pn)) pins σ H s → ok cls b →
    (∀ c h' tk, (∀ q o, s.heap.get? q = some o → h'.get? q = some o) → PySem.W.Looks (model X.prog X.w) h' (excMatches (.ref a) c) b → Q c { s with heap := h', toks := tk }) →
    wpAny (model X.prog X.w) (X.A.mark (some (.ref a))) (eval t X.env) Q E s
section
variable {X : Cx}
theorem name_is {x : Str} {c : Value} {np : Pos} (hc : Names X x c) {a : Addr} {pn pins : List (Addr × Obj)} {σ : L2.St} {H : Hp} {s : Shared} {Q : Value → Shared → Prop} {E : Value → Shared → Prop}
    (I : Inv (X.suite a pn) pins σ H s) (q : Q c s) : wpAny (model X.prog X.w) (X.A.mark (some (.ref a))) (eval (.Name x np) X.env) Q E s := by
  obtain ⟨g, nd, m | ⟨m, v, nn⟩⟩ := hc
  · exact ld_glob (X := X.suite a pn) I g m q nd
  · exact ld_blt (X := X.suite a pn) I g m v q nn nd
theorem exc_class {a : Addr} {oe : Obj} {cls : Value} {d : Option Addr} {pn pins : List (Addr × Obj)} {σ : L2.St} {H : Hp} {s : Shared} (z : Zc cls d oe) (I : Inv (X.suite a ((a, oe) :: pn)) pins σ H s) :
    PySem.W.Looks (model X.prog X.w) s.heap (typeOf (.ref a)) cls := fun A Q E s1 k q =>
  wpAny_typeOf_ref (k _ _ (I.pin (a, oe) (List.mem_append_left _ List.mem_cons_self)).1) (by rw [z.1]; exact q)
theorem asks_one {x : Str} {c : Value} {np : Pos} (hc : Names X x c) : Asks X (.Name x np) fun cls b => PySem.W.exmOne X.K cls c = some b := by
  intro a oe cls d pn pins σ H s Q E b z f I e q
  exact name_is hc I (q c s.heap s.toks (fun _ _ z => z) (PySem.W.exm_one (M := model X.prog X.w) I.kIn (exc_class z I) e))
theorem asks_two {x y : Str} {c e : Value} {p1 p2 tp : Pos} {kk : Nat} (hc : Names X x c) (he : Names X y e) : Asks X (.Tuple [.Name x p1, .Name y p2] kk tp) fun cls b => PySem.W.exmAny X.K cls [c, e] = some b := by
  intro a oe cls d pn pins σ H s Q E b z f I ok q
  refine wpAny_Tuple (wpAny_items_cons (name_is hc I (wpAny_items_cons (name_is he I (wpAny_items_nil ⟨by size_fits, ?_⟩)))))
  have more : ∀ q o, s.heap.get? q = some o → (s.heap.push { cls := .type "tuple", data := .seq [c, e].toArray }).get? q = some o := fun _ _ z => Heap.get?_push_of_some _ z
  exact q (.ref s.heap.objs.size) _ s.toks more (PySem.W.exm_tup2 (I.kIn.keeps more) ((exc_class z I).keeps more) (Heap.get?_push_size s.heap rfl) ok)
end
abbrev Cl := (Value → Bool → Prop) × Option Nat × (Addr → Value → Option Addr → TS)
def endsOf (n : Option Nat) (D : Ends) : Ends := match n with
  | none => D
  | some i => { nx := fun σ G => D.nx (σ.set i none) G, rt := D.rt, bk := fun σ G => D.bk (σ.set i none) G, ct := fun σ G => D.ct (σ.set i none) G }
def slotOf (n : Option Nat) (a : Addr) (σ : L2.St) : L2.St := match n with
  | none => σ
  | some i => σ.set i (some (.ref a))
/-- what the clauses wish of an exception of the body -/
def wCl (out : WX) (D : Ends) : List Cl → WX
  | [] => out
  | (ok, n, ts) :: r => fun cls d σ H => ∃ b, ok cls b ∧ (b = true → ∀ a, H a = none → ts a cls d (endsOf n D) (slotOf n a σ) H) ∧ (b = false → wCl out D r cls d σ H)
def SuiteOk (X : Cx) (body : List Stmt) (ts : Addr → Value → Option Addr → TS) : Prop :=
  ∀ (a : Addr) (oe : Obj) (cls : Value) (d : Option Addr) (pn : List (Addr × Obj)), Zc cls d oe → (∃ vs, oe.data = .fields vs) → PSs (X.suite a ((a, oe) :: pn)) body (ts a cls d)
inductive ClOk (X : Cx) : List ExceptHandler → List Cl → Prop
  | nil : ClOk X [] []
  | plain {t : Expr} {ok : Value → Bool → Prop} {ts : Addr → Value → Option Addr → TS} {b₀ : Stmt} {suite : List Stmt} {pos : Pos} {hs : List ExceptHandler} {l : List Cl} :
      Asks X t ok → SuiteOk X (b₀ :: suite) ts → ClOk X hs l → ClOk X (.ExceptHandler (some t) none (b₀ :: suite) pos :: hs) ((ok, none, ts) :: l)
  | named {t : Expr} {ok : Value → Bool → Prop} {i : Nat} {n : Str} {ts : Addr → Value → Option Addr → TS} {b₀ : Stmt} {suite : List Stmt} {pos : Pos} {hs : List ExceptHandler} {l : List Cl} :
      X.N.Nodup → X.N[i]? = some n → X.env.kindOf n = some .local → Asks X t ok → SuiteOk X (b₀ :: suite) ts → ClOk X hs l → ClOk X (.ExceptHandler (some t) (some n) (b₀ :: suite) pos :: hs) ((ok, some i, ts) :: l)
section
variable {X : Cx} {pins : List (Addr × Obj)} {D : Ends} {out : WX}
theorem clauses (ok : X.Ok) (one : X.stack = X.env :: X.outer) (own : X.env.frame = some X.env.locals) (tk : Takes X out) {a : Addr} {B : Heap} {sI : Shared} {σ : L2.St} {H : Hp} {cls : Value} {d : Option Addr}
    (J : Inv X pins σ H sI) (nb : ∀ b o, sI.heap.get? b = some o → b ∉ frs X.stack → B.get? b = some o) (na : H a = none) :
    ∀ {hs : List ExceptHandler} {l : List Cl}, ClOk X hs l → wCl out D l cls d σ H → ∀ s3 : Shared, PySem.HandSPX.FlyingZ B (X.env :: X.outer) a (Zc cls d) s3.heap → sI.heap.UpToSlots s3.heap → s3.os = sI.os → AllBare s3.gens →
      wpAny (model X.prog X.w) X.A (handleBy (.ref a) X.env hs) (SP X pins D) X.xe s3 := by
  intro hs l cl
  -- the exception's object, apart from all frames
  have apart : ∀ {h : Heap}, PySem.HandSPX.FlyingZ B (X.env :: X.outer) a (Zc cls d) h → ∃ oe vs, h.get? a = some oe ∧ Zc cls d oe ∧ oe.data = .fields vs ∧ a ≠ X.env.locals ∧ a ∉ X.fs := by
    intro h fl
    obtain ⟨oe, vs, e, z, dd⟩ := fl.there
    have no : a ∉ frs (X.env :: X.outer) := fun m => by
      obtain ⟨_, o2, e2, nf⟩ := fl.2.2.1.mem m
      rw [e] at e2
      cases e2
      exact nf _ dd
    refine ⟨oe, vs, e, z, dd, fun q => no ?_, fun m => no ?_⟩
    · exact List.mem_filterMap.mpr ⟨X.env, List.mem_cons_self, by rw [own, q]⟩
    · obtain ⟨en, h1, h2⟩ := List.mem_filterMap.mp m
      exact List.mem_filterMap.mpr ⟨en, List.mem_cons_of_mem _ h1, h2⟩
  have landed : ∀ {s3 : Shared}, PySem.HandSPX.FlyingZ B (X.env :: X.outer) a (Zc cls d) s3.heap → sI.heap.UpToSlots s3.heap → s3.os = sI.os → AllBare s3.gens → Inv X pins σ H s3 :=
    fun fl up os ag => J.landed nb fl.1 up os ag
  -- a suite that runs, from the state behind a test that is answered with yes
  have run : ∀ {b₀ : Stmt} {body : List Stmt} {ts : Addr → Value → Option Addr → TS} {σ2 : L2.St} {D2 : Ends} {s4 : Shared} {R : Flow → Shared → Prop} {E : Value → Shared → Prop} {oe : Obj}, SuiteOk X (b₀ :: body) ts →
      Zc cls d oe → (∃ vs, oe.data = .fields vs) → Inv (X.suite a ((a, oe) :: (X.pn ++ pins))) [] σ2 H s4 → ts a cls d D2 σ2 H →
      (∀ f s5, SP (X.suite a ((a, oe) :: (X.pn ++ pins))) [] D2 f s5 → R f s5) → wpAny (model X.prog X.w) (X.A.mark (some (.ref a))) (execs (b₀ :: body) X.env) R E s4 := by
    intro b₀ body ts σ2 D2 s4 R E oe su z f S ho hq
    exact wpAny_mono ((su a oe cls d (X.pn ++ pins) z f).run [] s4 σ2 H D2 S ho) hq fun _ _ z => z.elim
  induction cl with
  | nil =>
    intro w s3 fl up os ag
    refine wpAny_handleBy_nil ?_
    obtain ⟨_, _, _, oe, vs, T, oT, ts, e, _, dd, h1, _⟩ := id fl
    unfold PySem.passOn
    refine wpAny_bind (wpAny_field e dd h1 ?_)
    rw [if_neg (by simp)]
    have last : wpAny (model X.prog X.w) X.A (setFlight (.ref a) X.env.frame) (fun _ s4 => wpAny (model X.prog X.w) X.A (throw (.ref a) : Sem Flow) (SP X pins D) X.xe s4) X.xe s3 := by
      rw [own]
      refine PySem.HandSPX.setFlight_upZ fl fun h4 f4 u4 => wpAny_throw (tk _ _ ⟨a, B, sI, pins, σ, H, cls, d, rfl, J, nb, up.trans u4, .inr (.inr (by rw [one]; exact f4)), na, os, ag, w⟩)
    first
      | exact wpAny_bind last
      | exact wpAny_bind (wpAny_pure (wpAny_bind last))
  | @plain t okc ts b₀ suite pos hs l ask su _ ih =>
    intro w s3 fl up os ag
    obtain ⟨b, hb, yes, no⟩ := w
    obtain ⟨oe, vs, e, z, dd, nL, nF⟩ := apart fl
    have S := (landed fl up os ag).suite e dd na nL nF
    refine PySem.W.exc_clause (ask a oe cls d (X.pn ++ pins) [] σ H s3 _ _ b z ⟨_, dd⟩ S hb fun c h4 t4 k4 lk => ⟨b, lk, ?_⟩)
    have fl4 := flying_more fl k4
    have up4 := up.trans (upToSlots_more k4)
    cases b with
    | false => exact ih (no rfl) { s3 with heap := h4, toks := t4 } fl4 up4 os ag
    | true =>
      rw [if_pos rfl]
      refine PySem.HandSPX.lands_againZ (s := { s3 with heap := h4, toks := t4 }) fl4 fun h5 fl5 up5 => ?_
      obtain ⟨oe5, vs5, e5, z5, dd5, nL5, nF5⟩ := apart fl5
      have S5 := (landed (s3 := { s3 with heap := h5, toks := t4 }) fl5 (up4.trans up5) os ag).suite e5 dd5 na nL5 nF5
      refine run su z5 ⟨_, dd5⟩ S5 (yes rfl a na) fun f s6 hs6 => ?_
      cases f with
      | next => obtain ⟨σ6, H6, S6, q⟩ := hs6; exact ⟨σ6, H6, S6.unsuite ok, q⟩
      | brk => obtain ⟨σ6, H6, S6, q⟩ := hs6; exact ⟨σ6, H6, S6.unsuite ok, q⟩
      | cont => obtain ⟨σ6, H6, S6, q⟩ := hs6; exact ⟨σ6, H6, S6.unsuite ok, q⟩
      | ret u => obtain ⟨v, σ6, H6, S6, r, q⟩ := hs6; exact ⟨v, σ6, H6, S6.unsuite ok, r, q⟩
  | @named t okc i n ts b₀ suite pos hs l nd hi loc ask su _ ih =>
    intro w s3 fl up os ag
    obtain ⟨b, hb, yes, no⟩ := w
    obtain ⟨oe, vs, e, z, dd, nL, nF⟩ := apart fl
    have S := (landed fl up os ag).suite e dd na nL nF
    refine PySem.W.exc_clause_as (ask a oe cls d (X.pn ++ pins) [] σ H s3 _ _ b z ⟨_, dd⟩ S hb fun c h4 t4 k4 lk => ⟨b, lk, ?_⟩)
    have fl4 := flying_more fl k4
    have up4 := up.trans (upToSlots_more k4)
    cases b with
    | false => exact ih (no rfl) { s3 with heap := h4, toks := t4 } fl4 up4 os ag
    | true =>
      rw [if_pos rfl]
      refine PySem.HandSPX.lands_againZ (s := { s3 with heap := h4, toks := t4 }) fl4 fun h5 fl5 up5 => ?_
      obtain ⟨oe5, vs5, e5, z5, dd5, nL5, nF5⟩ := apart fl5
      have S5 := (landed (s3 := { s3 with heap := h5, toks := t4 }) fl5 (up4.trans up5) os ag).suite e5 dd5 na nL5 nF5
      refine store_ok (X := X.suite a ((a, oe5) :: (X.pn ++ pins))) (v := .ref a) S5 nd hi (.inl loc) rfl (fun s6 S6 => ?_) (.inr loc)
      refine run su z5 ⟨_, dd5⟩ S6 (yes rfl a na) fun f s7 hs7 => ?_
      cases f with
      | next => obtain ⟨σ7, H7, S7, q⟩ := hs7; exact gone_ok (S7.unsuite ok) nd hi loc fun s8 J8 => ⟨_, H7, J8, q⟩
      | brk => obtain ⟨σ7, H7, S7, q⟩ := hs7; exact gone_ok (S7.unsuite ok) nd hi loc fun s8 J8 => ⟨_, H7, J8, q⟩
      | cont => obtain ⟨σ7, H7, S7, q⟩ := hs7; exact gone_ok (S7.unsuite ok) nd hi loc fun s8 J8 => ⟨_, H7, J8, q⟩
      | ret u => obtain ⟨v, σ7, H7, S7, r, q⟩ := hs7; exact gone_ok (S7.unsuite ok) nd hi loc fun s8 J8 => ⟨v, _, H7, J8, r, q⟩
theorem ps_tryCl {body : List Stmt} {h₀ : ExceptHandler} {hs : List ExceptHandler} {l : List Cl} {pos : Pos} {tb : WX → TS} (one : X.stack = X.env :: X.outer) (own : X.env.frame = some X.env.locals) (tk : Takes X out)
    (der : ∀ (W : WX) (pn : List (Addr × Obj)) (xe : Value → Shared → Prop), Takes (X.tr pn xe) W → PassesOwn (model X.prog X.w) X.A X.env xe → PSs (X.tr pn xe) body (tb W)) (cl : ClOk X (h₀ :: hs) l) :
    PS X (.Try body (h₀ :: hs) [] [] pos) fun D σ H => tb (wCl out D l) D σ H where
  run := by
    intro pins s σ H D I ho
    have ok := I.ok
    have fr : X.A.frames = some (X.env :: X.outer) := ok.frames.trans (by rw [one])
    refine wpAny_Try_except (wpAny_mono ((der (wCl out D l) (X.pn ++ pins) _ ?_ PassesOwn.looking).run [] s σ H D (I.toTry _) ho) (fun f s1 hs1 => ?_) fun e s1 z => z)
    · intro u s2 xx
      obtain ⟨a, B, sI, pins2, σ2, H2, cls, d, rfl, J2, nb, up, sky, na, os, ag, w⟩ := xx
      have J : Inv X pins σ2 H2 sI := J2.ofTry ok
      have sky2 : Sky B (X.env :: X.outer) a (Zc cls d) X.env.locals s2.heap := by rw [← one]; exact sky
      exact Sky.land Zc.steady fr own sky2 fun h3 fl3 up3 => clauses ok one own tk J nb na cl w { s2 with heap := h3 } fl3 (up.trans up3) os ag
    · cases f with
      | next => obtain ⟨σ1, H1, J, q⟩ := hs1; exact wpAny_execs_nil ⟨σ1, H1, J.ofTry ok, q⟩
      | brk => obtain ⟨σ1, H1, J, q⟩ := hs1; exact ⟨σ1, H1, J.ofTry ok, q⟩
      | cont => obtain ⟨σ1, H1, J, q⟩ := hs1; exact ⟨σ1, H1, J.ofTry ok, q⟩
      | ret u => obtain ⟨v, σ1, H1, J, r, q⟩ := hs1; exact ⟨v, σ1, H1, J.ofTry ok, r, q⟩
end
end PSG

set_option Elab.async false
set_option linter.all false
set_option maxRecDepth 100000
set_option maxHeartbeats 4000000
namespace PySem.W
open PySem PySem.Spec PySem.Calls PyProof.Rows
/-! ### isinstance of an exception of an own class, with or without attributes -/
/-- what the class must say -/
structure XcC (K : Frag) (D : Addr) : Prop where
  get : findIn K (.ref D) "__getattribute__" = some (some (.builtin "BaseException.__getattribute__"))
  get2 : findIn K (.ref D) "__getattr__" = some none
  exc : subIn K (.ref D) (.type "BaseException") = some true
  dict : hasDictIn K D = true
  cls : findIn K (.ref D) "__class__" = some (some (.builtin "object.__class__"))
  desc : specialIn K (.builtin "object.__class__") "__get__" = some (some (.builtin "getset_descriptor.__get__"))
  data : takesIn K (.builtin "object.__class__") = some true
  obj : mroIn K D (.type "object") = some true
theorem XcC.there {K : Frag} {D : Addr} (T : XcC K D) : ∃ o cd, K.lookup D = some o ∧ o.data = .cls cd := by
  obtain ⟨c1, e, _⟩ := any_some T.dict
  unfold clsIn at e
  cases q : K.lookup D with
  | none =>
    rw [q] at e
    cases e
  | some o =>
    obtain ⟨oc, od, dt, sl⟩ := o
    cases dt <;> (rw [q] at e; first | exact ⟨_, _, rfl, rfl⟩ | cases e)
section
variable {prog : Program} {w : World} {A : Around} {E : Value → Shared → Prop} {s : Shared} {K : Frag} {x D : Addr} {ox : Obj} {od : Option Obj}
theorem XcC.asked {Q : Option Value → Shared → Prop} (T : XcC K D) (X : K.In s.heap) (I : InstAt s.heap x ox D od) (ho : Q (some (.ref D)) { s with toks := s.toks + 1 }) :
    wpAny (model prog w) A (getAttr? (.ref x) "__class__") Q E s := by
  have found : findObj K D od "__class__" = some (.bind (.builtin "getset_descriptor.__get__") (.builtin "object.__class__")) := by
    obtain ⟨cd, c, _⟩ := any_some T.dict
    unfold findObj
    simp [c, T.cls, T.desc, T.data]
  obtain ⟨hp, g, dr, t, os⟩ := s
  have k1 := I.type (M := model prog w)
  have k2 := looks_findIn (M := model prog w) X T.get
  have k3 := looks_findIn (M := model prog w) X T.get2
  have k4 := looks_find (M := model prog w) X I found
  have k5 : Looks (model prog w) hp (isInstance (.ref x) (.type "BaseException")) true := k1.andThen (looks_subIn X T.exc)
  have no : (onTheHeap (Value.ref D) && Value.builtin "BaseException.__getattribute__" == Value.builtin "object.__getattribute__") = false := by
    show (Value.builtin "BaseException.__getattribute__" == Value.builtin "object.__getattribute__") = false
    decide +kernel
  have no2 : (false && onTheHeap (Value.builtin "BaseException.__getattribute__")) = false := rfl
  unfold getAttr?
  unfold getAttrBy?
  unfold getAttrBy
  refine wpAny_bind (wpAny_mkText (wpAny_bind (wpAny_attempt (wpAny_holding (wpAny_bind (k1.at (wpAny_bind (k2.at ?_))))))))
  show wpAny _ _ (if (onTheHeap (Value.ref D) && Value.builtin "BaseException.__getattribute__" == Value.builtin "object.__getattribute__") = true then _ else _) _ _ _
  rw [no]
  rw [if_neg (by decide)]
  unfold getAttrByItsOwn
  unfold hookBefore
  refine wpAny_bind ?_
  rw [if_pos (show onTheHeap (.ref D) = true from rfl)]
  refine k3.at (wpAny_bind (wpAny_attempt (wpAny_holding ?_)))
  unfold callGetattribute
  rw [no2]
  rw [if_neg (by decide)]
  unfold boundAndCalled
  rw [F.excAttr_ValueError.ga.bind (.ref x)]
  refine wpAny_bind (wpAny_pure ?_)
  show wpAny _ _ (call (.builtin "BaseException.__getattribute__") [.ref x, .str "__class__" t]) _ _ _
  refine wpAny_call (codeAny_call_builtin F.excAttr_ValueError.ga.plain F.entry_bexc_ga (@check_slot (model prog w) _ _ ⟨hp, g, dr, t + 1, os⟩ "BaseException.__getattribute__" "BaseException" "__getattribute__" (.ref x) [.str "__class__" t] [] _
    (by decide +kernel) (by decide +kernel) k5 (F.args_bexc_ga (.ref x) (.str "__class__" t)) ?_))
  unfold Builtin.«object.__getattribute__»
  refine wpAny_bind (wpAny_of_eq (a := ((Value.ref x : Value), [Value.str "__class__" t])) (by first | rfl | (simp only [slotArgs]; rfl)) (wpAny_bind (wpAny_pure (wpAny_bind (k1.at (wpAny_bind (k4.at ?_)))))))
  show wpAny _ _ (holding [Value.builtin "object.__class__"] (call (.builtin "getset_descriptor.__get__") [.builtin "object.__class__", .ref x, .ref D]) >>= ret) _ _ _
  refine wpAny_bind (wpAny_holding (wpAny_call (class_get (s := ⟨hp, g, dr, t + 1, os⟩) X I T.obj (wpAny_pure ?_))))
  show wpAny _ _ (handedOut (.ref D)) _ _ _
  rw [handedOut_of (v := .ref D) rfl]
  first
    | exact wpAny_pure ho
    | exact wpAny_pure (wpAny_pure ho)
    | exact wpAny_pure (wpAny_bind (wpAny_pure (wpAny_pure ho)))
theorem XcC.kit (T : XcC K D) : KitX K (.ref x) (.ref D) (fun h => ∃ od, InstAt h x ox D od) where
  ty := fun _ _ _ ⟨_, I⟩ => I.type
  it := fun M h X _ => by
    obtain ⟨o, cd, q, dd⟩ := T.there
    intro A2 Q2 E2 s2 k ho
    unfold isType
    unfold loadHead
    exact wpAny_bind (wpAny_loadPart (k _ _ (X _ _ q)) (by rw [dd]; exact wpAny_pure ho))
  ne := fun h tp dd its n sl X at_ => by
    obtain ⟨o, cd, q, d2⟩ := T.there
    cases z : (Value.ref D == Value.ref tp) with
    | false => rfl
    | true =>
      have e : D = tp := Value.ref.inj (beq_iff_eq.mp z)
      rw [← e, X _ _ q] at at_
      cases at_
      cases d2
  ca := fun X ⟨_, I⟩ ho => T.asked X I ho
end
end PySem.W

set_option Elab.async false
set_option linter.all false
set_option maxRecDepth 100000
set_option maxHeartbeats 4000000
/-! ### exceptions of own classes over any built-in base, as values -/
namespace PySem.XV
open PySem PySem.Spec PySem.W PySem.Calls PySem.HandSPX
section
variable {prog : Program} {w : World} {A : Around} {E : Value → Shared → Prop} {R : Result → Shared → Prop} {h : Heap} {g : Array GenState} {d : Drawn} {t : Nat} {os : OsState}
variable {nm q : Str} {C N : Addr} {bs bm bmB : List Value} {hdct : Bool} {sn : List Str} {sub : List Value} {ab : Bool} {col : Option Bool} {dd : Option Addr} {k0 k1 k2 k3 k5 : Option Value} {B newId initId : String}
theorem new_checked {M : Model} (F : ExcBaseFacts B newId initId bmB) (same : ∀ X : String, bm.contains (.type X) = bmB.contains (.type X)) {kw : List (Str × Value)} {Q : Unit → Shared → Prop}
    (at_ : h.get? C = some (excClassObj nm q C N bs bm hdct sn sub ab col dd k0 k1 k2 k3 k5 newId)) (ho : Q () ⟨h, g, d, t, os⟩) : wpAny M A (checkBuiltinCall newId ⟨[.ref C], kw⟩) Q E ⟨h, g, d, t, os⟩ := by
  have cB : (Value.ref C :: bm).contains (.type B) = true := by rw [List.contains_cons, same, F.hasB, Bool.or_true]
  have s0 := F.noStar
  simp only [checkBuiltinCall, F.newKind, F.newSplit, F.newRow]
  repeat (first
    | refine wpAny_loadPart_at at_ ?_
    | (refine wpAny_isSubtype_exc at_ ?_; rw [cB])
    | refine wpAny_staticBase_exc at_ ?_
    | refine wpAny_madeBy_exc at_ ?_
    | simp only [bne_self_eq_false, Bool.false_eq_true, if_false]
    | wp_step)
  exact ho
theorem new_kw (F : ExcBaseFacts B newId initId bmB) (same : ∀ X : String, bm.contains (.type X) = bmB.contains (.type X)) {kw : List (Str × Value)}
    (at_ : h.get? C = some (excClassObj nm q C N bs bm hdct sn sub ab col dd k0 k1 k2 k3 k5 newId))
    (ho : R (.ok (.ret (.ref (h.objs.size + 1)))) ⟨(h.push { cls := .type "tuple", data := .seq #[] }).push { cls := .ref C, data := .fields #[.ref h.objs.size, .none, .none, .none, .bool false, .none] }, g, d, t, os⟩) :
    codeAny (model prog w) A (.builtin newId ⟨[.ref C], kw⟩) R ⟨h, g, d, t, os⟩ := by
  have e0 := F.ends
  have cB : (Value.ref C :: bm).contains (.type B) = true := by rw [List.contains_cons, same, F.hasB, Bool.or_true]
  have cA : (Value.ref C :: bm).contains (.type "AttributeError") = false := by rw [List.contains_cons, same, F.noAttr]; rfl
  have cN : (Value.ref C :: bm).contains (.type "NameError") = false := by rw [List.contains_cons, same, F.noName]; rfl
  refine codeAny_builtinAt F.entry ?_
  unfold Builtin.«BaseException.__new__»
  refine wpAt_bind ?_
  show wpAt _ _ _ (stack >>= _) _ _ _
  refine wpAt_bind (wpAt_stack fun p below => wpAt_of_wpAny ?_)
  wp_walk
  refine wpAt_of_wpAny ?_
  rw [F.owner]
  repeat (first
    | with_reducible refine wpAny_madeHere_exc F.canon at_ ?_
    | with_reducible refine wpAny_loadPart_at at_ ?_
    | (with_reducible refine wpAny_isSubtype_exc at_ ?_; first | rw [cB] | rw [cA] | rw [cN])
    | wp_step)
  show R _ _
  rw [Heap.size_push]
  exact ho
theorem made_kw (F : ExcBaseFacts B newId initId bmB) (same : ∀ X : String, bm.contains (.type X) = bmB.contains (.type X)) {kw : List (Str × Value)} {fI : Addr} {Q : Fin → Shared → Prop}
    (at_ : h.get? C = some (excClassObj nm q C N bs bm hdct sn sub ab col dd k0 k1 k2 k3 k5 newId))
    (hi : W.Looks (model prog w) h (typeLookup (.ref C) "__init__") (some (.ref fI))) (hb : ∀ self, W.Looks (model prog w) h (bindSpecial (.ref fI) self) (.ref fI, [self]))
    (ho : codeAny (model prog w) A (.call (.ref fI) ⟨[.ref (h.objs.size + 1)], kw⟩)
      (fun r s' => match r with | .ok (.ret v) => v = .none ∧ Q (.done (.ret (.ref (h.objs.size + 1)))) s' | .ok _ => False | .error e => E e s')
      ⟨(h.push (W.kdv_tup [])).push (excO C h.objs.size), g, d, t, os⟩) :
    wpAny (model prog w) A (Builtin.«type.__call__» ⟨[.ref C], kw⟩) Q E ⟨h, g, d, t, os⟩ := by
  repeat (first | with_reducible refine wpAny_loadPart_at at_ ?_ | with_reducible refine wpAny_madeBy_exc at_ ?_ | wp_step)
  refine codeAny_call_builtin_code (Code.quiet_builtin _ F.quiet) (new_checked F same at_ (new_kw F same at_ ?_))
  show wpAny _ _ _ _ _ _
  have old : ∀ b o, h.get? b = some o → ((h.push (W.kdv_tup [])).push (excO C h.objs.size)).get? b = some o := fun b o e => Heap.get?_push_of_some _ (Heap.get?_push_of_some _ e)
  have at2 := old _ _ at_
  have new : ((h.push (W.kdv_tup [])).push (excO C h.objs.size)).get? (h.objs.size + 1) = some (excO C h.objs.size) := by heap_get
  have cC : (Value.ref C :: bm).contains (.ref C) = true := by simp
  have i1 := hi.keeps old
  have b1 := (hb (.ref (h.objs.size + 1))).keeps old
  unfold isInstance
  repeat (first | with_reducible refine wpAny_loadPart_at new ?_ | (with_reducible refine wpAny_isSubtype_exc at2 ?_; rw [cC]) | wp_step)
  show wpAny _ _ (typeLookup (.ref C) _) _ _ _
  refine i1.at (wpAny_holding (wpAny_bind (b1.at (wpAny_bind (wpAny_call (codeAny_mono ho fun r s' z => ?_))))))
  rcases r with e | (v | _ | _ | _) <;> first | exact z | exact z.elim | skip
  obtain ⟨rfl, z⟩ := z
  first
    | exact wpAny_pure (wpAny_pure z)
    | (wp_walk; exact z)
theorem call_kw (F : ExcBaseFacts B newId initId bmB) (same : ∀ X : String, bm.contains (.type X) = bmB.contains (.type X)) {kw : List (Str × Value)} {fI : Addr}
    (at_ : h.get? C = some (excClassObj nm q C N bs bm hdct sn sub ab col dd k0 k1 k2 k3 k5 newId))
    (hi : W.Looks (model prog w) h (typeLookup (.ref C) "__init__") (some (.ref fI))) (hb : ∀ self, W.Looks (model prog w) h (bindSpecial (.ref fI) self) (.ref fI, [self]))
    (ho : codeAny (model prog w) (A.under (.builtin "type.__call__" ⟨[.ref C], kw⟩)) (.call (.ref fI) ⟨[.ref (h.objs.size + 1)], kw⟩) (W.InitBack (h.objs.size + 1) R)
      ⟨(h.push (W.kdv_tup [])).push (excO C h.objs.size), g, d, t, os⟩) :
    codeAny (model prog w) A (.call (.ref C) ⟨[], kw⟩) R ⟨h, g, d, t, os⟩ := by
  have f1 := tc_lookup
  have f2 := tc_bind (.ref C)
  have isT : (⟨h, g, d, t, os⟩ : Shared).TypeIs (.ref C) "type" := ⟨_, at_, rfl⟩
  refine codeAny_of_tree ?_
  show wpAny _ _ (callAny (.ref C) _) _ _ _
  repeat (any_goals (first | assumption | with_reducible refine wpAny_loadPart_at at_ ?_ | wp_step))
  refine ⟨rfl, codeAny_call_builtin_at (Code.quiet_builtin _ (by decide +kernel)) entry_typeCall (wpAny_check_type_call_sub at_ (made_kw F same at_ hi hb (codeAny_mono ho fun r s' z => ?_)))⟩
  rcases r with e | (v | _ | _ | _) <;> exact z
end
end PySem.XV

set_option Elab.async false
set_option linter.all false
set_option maxRecDepth 100000
set_option maxHeartbeats 4000000
namespace PSG
open PySem PySem.Spec L2
open PyProof.Rows (IntsAre AllBare)
/-- what the written part says of an own exception class at C, whose __init__ is the def at fI -/
structure Xk (K : PySem.W.Frag) (C fI : Addr) (B newId initId : String) (bmB : List Value) : Prop where
  fb : ExcBaseFacts B newId initId bmB
  sf : StoreFacts B bmB "object.__setattr__" "object"
  made : PySem.W.excInitIn K C bmB newId = true
  over : PySem.W.excOver K C bmB = true
  dict : PySem.W.hasDictIn K C = true
  set : PySem.W.findIn K (.ref C) "__setattr__" = some (some (.builtin "object.__setattr__"))
  init : PySem.W.findIn K (.ref C) "__init__" = some (some (.ref fI))
  fn : PySem.W.typeIn K (.ref fI) = some (.type "function")
  keep : PySem.W.keepIn K (.ref C) = true
  exc : PySem.W.subIn K (.ref C) (.type "BaseException") = some true
  ty : PySem.W.typeIn K (.ref C) = some (.type "type")
/-- at a: an exception of the class at C with these attributes (the last one stored first) -/
def ExV (H : Hp) (a C : Addr) (fs : List (Str × V)) : Prop :=
  (fs = [] ∧ H a = some (exo a C none)) ∨ ∃ d, fs ≠ [] ∧ H a = some (exo a C (some d)) ∧ H d = some (exd d fs)
theorem ExV.same {H H' : Hp} {a C : Addr} {fs : List (Str × V)} (x : ExV H a C fs) (s : Same H H') : ExV H' a C fs := by
  rcases x with ⟨e, h⟩ | ⟨d, e, h, h2⟩
  · exact .inl ⟨e, s _ _ h⟩
  · exact .inr ⟨d, e, s _ _ h, s _ _ h2⟩
end PSG
namespace PySem.XV
open PySem PySem.Spec PySem.W PySem.Calls PySem.HandSPX Builtin Builtin.ObjectAttr
section
variable {prog : Program} {w : World} {A : Around} {E : Value → Shared → Prop} {R : Result → Shared → Prop} {hp : Heap} {g : Array GenState} {d : Drawn} {t : Nat} {os : OsState}
/-- self.name = v, the first one -/
theorem store_first {K : W.Frag} {B : String} {bmB : List Value} {name : Str} {tk : Tok} {v : Value} {x C : Addr} {fv : Array Value} (SF : StoreFacts B bmB "object.__setattr__" "object") (ov : excOver K C bmB = true) (hd : hasDictIn K C = true)
    (X : K.In hp) (hx : hp.get? x = some { cls := .ref C, data := .fields fv }) (ha : W.findIn K (.ref C) name = some none)
    (hq : ∀ h' tk' dx, (∀ b o, b ≠ x → hp.get? b = some o → h'.get? b = some o) → hp.objs.size ≤ dx → dx ≠ x → h'.get? x = some { cls := .ref C, dict := some dx, data := .fields fv } →
      h'.Ns1 dx (fun y => if y = name then some v else none) → R (.ok (.ret .none)) ⟨h', g, d, tk', os⟩) :
    codeAny (model prog w) A (.call (.builtin "object.__setattr__") ⟨[.ref x, .str name tk, v], []⟩) R ⟨hp, g, d, t, os⟩ := by
  have I : W.InstAt hp x { cls := .ref C, data := .fields fv } C none := ⟨hx, rfl, rfl, trivial⟩
  have ne : x ≠ hp.objs.size := Nat.ne_of_lt (Heap.lt_size hx)
  have tak : takerIn K C name = some none := by unfold takerIn; rw [ha]; rfl
  obtain ⟨cd, hcd, hh⟩ := any_some hd
  refine osa_openX SF X I ov tak fun b => ?_
  have lc : W.Looks (model prog w) hp (classData C) cd := W.looks_clsIn X hcd
  obtain ⟨nm, bs, mro, ns, qn, hdd, sn, sb, ab, col, del⟩ := cd
  dsimp only at hh
  subst hh
  show wpAny _ _ (storeInOwnDict (.ref x) (.ref C) (.str name tk) name v b) _ _ _
  unfold storeInOwnDict
  unfold ownDictForStores
  repeat (first
    | with_reducible refine store_in_new ?_ ?_
    | with_reducible refine wpAny_loadPart_at hx ?_
    | with_reducible refine lc.at ?_
    | wp_step)
  · exact ⟨_, #[], _, (Heap.get?_update_ne _ _ _ _ ne.symm).trans (Heap.get?_push_at rfl rfl), rfl, fun e he => absurd he (by simp), fun _ => rfl⟩
  · intro h' tk' hn' hs
    have hx1 : (hp.push { cls := .type "dict", data := .dict #[] }).get? x = some { cls := .ref C, data := .fields fv } := Heap.get?_push_of_some _ hx
    refine hq h' tk' hp.objs.size (fun c o hc ho => ?_) (Nat.le_refl _) ne.symm ((hs.2 x ne).trans (Heap.get?_update_self _ hx1 rfl)) hn'
    exact (hs.2 c (Nat.ne_of_lt (Heap.lt_size ho))).trans ((Heap.get?_update_ne _ _ _ _ hc).trans (Heap.get?_push_of_some _ ho))
/-- self.name = v, a further one -/
theorem store_next {K : W.Frag} {B : String} {bmB : List Value} {name : Str} {tk : Tok} {v : Value} {x C dx : Addr} {fv : Array Value} {m0 : Str → Option Value} {nl : List Str} (SF : StoreFacts B bmB "object.__setattr__" "object") (ov : excOver K C bmB = true) (hd : hasDictIn K C = true)
    (X : K.In hp) (hx : hp.get? x = some { cls := .ref C, dict := some dx, data := .fields fv }) (hns : hp.Ns1 dx m0) (hw : Within m0 nl) (hz : nl.length ≤ 1000) (ha : W.findIn K (.ref C) name = some none)
    (hq : ∀ h' tk', (∀ b o, b ≠ dx → hp.get? b = some o → h'.get? b = some o) → h'.Ns1 dx (fun y => if y = name then some v else m0 y) → R (.ok (.ret .none)) ⟨h', g, d, tk', os⟩) :
    codeAny (model prog w) A (.call (.builtin "object.__setattr__") ⟨[.ref x, .str name tk, v], []⟩) R ⟨hp, g, d, t, os⟩ := by
  obtain ⟨oD, _, _, hoD, _, _⟩ := hns.count hw
  have I : W.InstAt hp x { cls := .ref C, dict := some dx, data := .fields fv } C (some oD) := ⟨hx, rfl, rfl, hoD⟩
  have tak : takerIn K C name = some none := by unfold takerIn; rw [ha]; rfl
  obtain ⟨cd, hcd, hh⟩ := any_some hd
  refine osa_openX SF X I ov tak fun b => ?_
  have lc : W.Looks (model prog w) hp (classData C) cd := W.looks_clsIn X hcd
  obtain ⟨nm, bs, mro, ns, qn, hdd, sn, sb, ab, col, del⟩ := cd
  dsimp only at hh
  subst hh
  show wpAny _ _ (storeInOwnDict (.ref x) (.ref C) (.str name tk) name v b) _ _ _
  unfold storeInOwnDict
  unfold ownDictForStores
  repeat (first
    | with_reducible refine PySem.OEX.store_in_old hns hw hz ?_
    | with_reducible refine wpAny_loadPart_at hx ?_
    | with_reducible refine lc.at ?_
    | wp_step)
  exact fun h' tk' hn' hs => hq h' tk' (fun c o hc ho => (hs.2 c hc).trans ho) hn'
end
end PySem.XV
namespace PSG
open PySem PySem.Spec L2
open PyProof.Rows (IntsAre AllBare)
section
variable {X : Cx} {pins : List (Addr × Obj)} {σ : L2.St} {H : Hp} {s : Shared} {a C fI dx : Addr} {f : Str} {y : V} {u : Value} {fs : List (Str × V)} {Q : Unit → Shared → Prop} {E : Value → Shared → Prop} {A : Around} {B newId initId : String} {bmB : List Value}
theorem xset_first (T : Xk X.K C fI B newId initId bmB) (I : Inv X pins σ H s) (e : H a = some (exo a C none)) (no : PySem.W.findIn X.K (.ref C) f = some none) (ry : RelV y u)
    (ho : ∀ dx s', H dx = none → dx ≠ a → Inv X pins σ (upd (upd H dx (exd dx [(f, y)])) a (exo a C (some dx))) s' → Q () s') : wpAny (model X.prog X.w) A (setAttr (.ref a) f u) Q E s := by
  obtain ⟨t1, ob⟩ := exo_at I.hok e
  obtain ⟨hp, g, d, t, os⟩ := s
  refine PySem.W.set_plain I.kIn (ox := { cls := .ref C, dict := none, data := .fields #[.ref t1, .none, .none, .none, .bool false, .none] }) (od := none) ⟨ob, rfl, rfl, trivial⟩ T.set ?_
  refine PySem.XV.store_first T.sf T.over T.dict I.kIn ob no fun h' tk' dx k dn dne hx hn => ?_
  have free : H dx = none := I.hok.fresh dn
  have old : ∀ {b : Addr} {o : Obj}, hp.get? b = some o → b ≠ dx := fun {b o} q => Nat.ne_of_lt (Nat.lt_of_lt_of_le (Heap.lt_size q) dn)
  have off : ∀ {b : Addr}, H b = none → b ≠ a := fun {b} n z => by
    rw [z, e] at n
    cases n
  refine ho dx _ free dne (I.un (t' := tk') ?_ fun b o q => ?_)
  · exact {
      keep := fun b o q n _ _ => k b o (off n) q
      slot := fun b o q n _ _ => ⟨o.slots, k b o (off n) q⟩
      free := fun b o q n _ => (upd_ne (off n)).trans ((upd_ne (old q)).trans n)
      there := fun b o q _ => if hb : b = a then ⟨_, hb ▸ hx⟩ else ⟨o, k b o hb q⟩
      tups := fun b xs q => (upd_ne (at_ne e q exo_tup)).trans ((upd_ne (ne_of_none q free)).trans q)
      frzs := fun b o v q => (upd_ne (at_ne e q exo_frz)).trans ((upd_ne (ne_of_none q free)).trans q)
      tbls := fun b ps q => ⟨#[], by rw [upd_ne (at_ne e q exo_tbl), upd_ne (ne_of_none q free), q]; simp⟩ }
  · by_cases hb : b = a
    · rw [hb, upd_same] at q
      cases q
      rw [hb]
      exact exo_ok hx
    · rw [upd_ne hb] at q
      by_cases hd : b = dx
      · rw [hd, upd_same] at q
        cases q
        rw [hd]
        exact exd_ok hn (relO_put (fs := []) ry fun _ => True.intro)
      · rw [upd_ne hd] at q
        refine (I.hok b o q).stay (fun c v hc z => k c v ?_ z) (fun c hc => ?_) fun c xs hc => ?_
        · rcases hc with hc | hc
          · rw [hc]
            exact hb
          · exact at_ne e hc exo_own
        · rw [upd_ne (at_ne e hc exo_own), upd_ne (ne_of_none hc free)]
          exact hc
        · rw [upd_ne (at_ne e hc exo_tup), upd_ne (ne_of_none hc free)]
          exact hc
theorem xset_next (T : Xk X.K C fI B newId initId bmB) (I : Inv X pins σ H s) (e : H a = some (exo a C (some dx))) (ed : H dx = some (exd dx fs)) (hl : fs.length ≤ 900) (no : PySem.W.findIn X.K (.ref C) f = some none) (ry : RelV y u)
    (ho : ∀ s', Inv X pins σ (upd H dx (exd dx ((f, y) :: fs))) s' → Q () s') : wpAny (model X.prog X.w) A (setAttr (.ref a) f u) Q E s := by
  obtain ⟨t1, ob⟩ := exo_at I.hok e
  obtain ⟨mA, hns, rel⟩ := exd_at I.hok ed
  have hw := within_of rel
  obtain ⟨hp, g, d, t, os⟩ := s
  obtain ⟨oD, _, _, hoD, _, _⟩ := hns.count hw
  refine PySem.W.set_plain I.kIn (ox := { cls := .ref C, dict := some dx, data := .fields #[.ref t1, .none, .none, .none, .bool false, .none] }) (od := some oD) ⟨ob, rfl, rfl, hoD⟩ T.set ?_
  refine PySem.XV.store_next T.sf T.over T.dict I.kIn ob hns hw (by rw [List.length_map]; omega) no fun h' tk' k hn => ?_
  have hd : ∃ o, h'.get? dx = some o := by
    obtain ⟨o, _, _, e', _⟩ := hn
    exact ⟨o, e'⟩
  exact ho _ (I.write (t' := tk') (x := dx) (e := dx) (o := exd dx ((f, y) :: fs)) (by rw [ed]; exact True.intro) (.inl rfl) k hd (exd_ok hn (relO_put ry rel)))
end
/-- self.f = e in such an __init__ -/
def tXset (K : PySem.W.Frag) (f : Str) (to te : TE) : TS := fun D σ H => te σ H fun y H1 => to σ H1 fun x H2 => ∃ (a C fI : Addr) (B newId initId : String) (bmB : List Value), x = .ref a ∧ Xk K C fI B newId initId bmB ∧ PySem.W.findIn K (.ref C) f = some none ∧
  ((H2 a = some (exo a C none) ∧ ∀ dx, H2 dx = none → dx ≠ a → D.nx σ (upd (upd H2 dx (exd dx [(f, y)])) a (exo a C (some dx)))) ∨
    ∃ (dx : Addr) (fs : List (Str × V)), H2 a = some (exo a C (some dx)) ∧ H2 dx = some (exd dx fs) ∧ fs.length ≤ 900 ∧ D.nx σ (upd H2 dx (exd dx ((f, y) :: fs))))
section
variable {X : Cx} {o e : Expr} {to te : TE} {f : Str} {p' pos : Pos}
theorem ps_xset (ho : PE X o to) (he : PE X e te) (hs : swapsWith e (some (.Attribute o f p')) pos.line X.env = pure false := by rfl) : PS X (.Assign [.Attribute o f p'] e pos) (tXset X.K f to te) where
  run := fun pins s σ H D I h => by
    refine plainObj_wpAny_Assign_Attribute (thn (he.run pins s σ H _ I h) fun v s1 ⟨y, H1, I1, r1, q1⟩ => thn (ho.run pins s1 σ H1 _ I1 q1) fun u s2 ⟨x, H2, I2, r2, a, C, fI, B, newId, initId, bmB, ex, T, no, q⟩ => ?_) hs
    subst ex
    cases r2
    rcases q with ⟨ea, q⟩ | ⟨dx, fs, ea, ed, hl, q⟩
    · exact xset_first T I2 ea no r1 fun dx s' n ne J => ⟨σ, _, J, q dx n ne⟩
    · exact xset_next T I2 ea ed hl no r1 fun s' J => ⟨σ, _, J, q⟩
end
/-! ### the promise of such an __init__, and the call of the class -/
/-- the attributes fn of the new exception are the arguments -/
def spXI (C : Addr) (fn : List Str) : Sp := fun vs H Q _ => ∃ (a : Addr) (ws : List V), vs = .ref a :: ws ∧ ws.length = fn.length ∧ H a = some (exo a C none) ∧
  ∀ H2, (∀ b o, b ≠ a → H b = some o → H2 b = some o) → ExV H2 a C (fn.zip ws).reverse → Q .non H2
def tXmk (C : Addr) (fn : List Str) (t : TA) : TE := fun σ H Q => t σ H fun vs H1 => vs.length = fn.length ∧ fn.length ≤ 1000 ∧ ∀ a H2, H1 a = none → Same H1 H2 → ExV H2 a C (fn.zip vs).reverse → Q (.ref a) H2
section
variable {X : Cx} {CT : CXT} {x : Str} {C fI : Addr} {n : Nat} {fd : FuncData} {ps fn : List Str} {B newId initId : String} {bmB : List Value} {p pos : Pos}
/-- the new object, its __init__ called, tracked -/
theorem xmade {pins : List (Addr × Obj)} {σ : L2.St} {H1 : Hp} {hp : Heap} {g : Array GenState} {dr : Drawn} {tk : Nat} {os : OsState} {Q : VK} {args : Args} {us : List Value} {vs : List V} (T : Xk X.K C fI B newId initId bmB)
    (F : FnOk X.prog X.w X.K X.mg X.base CX0 n fI fd ps (spXI C fn)) (room : Room (n + 1) X.A) (I1 : Inv X pins σ H1 ⟨hp, g, dr, tk, os⟩) (lay : List Value) (kw : List (Str × Value))
    (bi : ∀ s : Shared, X.K.In s.heap → BindsTo s fd args (ps.zip (.ref (hp.objs.size + 1) :: us))) (va : Vals vs us) (len : vs.length = fn.length)
    (ho : ∀ a H2, H1 a = none → Same H1 H2 → ExV H2 a C (fn.zip vs).reverse → Q (.ref a) H2) :
    codeAny (model X.prog X.w) (X.A.under (.builtin "type.__call__" ⟨.ref C :: lay, kw⟩)) (.call (.ref fI) args)
      (PySem.W.InitBack (hp.objs.size + 1) fun r s' => match r with | .ok (.ret v) => EP X pins σ Q v s' | .ok _ => False | .error e => X.xe e s')
      ⟨(hp.push (PySem.W.kdv_tup lay)).push (PySem.HandSPX.excO C hp.objs.size), g, dr, tk, os⟩ := by
  have big : hp.objs.size ≤ hp.objs.size + 1 := Nat.le_succ _
  have free : H1 (hp.objs.size + 1) = none := I1.hok.fresh big
  have old : ∀ b o, hp.get? b = some o → ((hp.push (PySem.W.kdv_tup lay)).push (PySem.HandSPX.excO C hp.objs.size)).get? b = some o := fun b o e => Heap.get?_push_of_some _ (Heap.get?_push_of_some _ e)
  have new : ((hp.push (PySem.W.kdv_tup lay)).push (PySem.HandSPX.excO C hp.objs.size)).get? (hp.objs.size + 1) = some (PySem.HandSPX.excO C hp.objs.size) := by heap_get
  have I2 : Inv X pins σ (upd H1 (hp.objs.size + 1) (exo (hp.objs.size + 1) C none)) ⟨(hp.push (PySem.W.kdv_tup lay)).push (PySem.HandSPX.excO C hp.objs.size), g, dr, tk, os⟩ :=
    I1.laid (t' := tk) (a := hp.objs.size + 1) (o := exo (hp.objs.size + 1) C none) (h' := (hp.push (PySem.W.kdv_tup lay)).push (PySem.HandSPX.excO C hp.objs.size)) old big (exo_ok new)
  have va2 : Vals (V.ref (hp.objs.size + 1) :: vs) (Value.ref (hp.objs.size + 1) :: us) := .cons rfl va
  refine codeAny_mono (F.run _ X.stack _ _ args (Value.ref (hp.objs.size + 1) :: us) _ (fun v H2 => v = .non ∧ Q (.ref (hp.objs.size + 1)) H2) (fun _ _ _ => False) (room.make C lay kw) (I2.env0.make C lay kw) (bi _ I2.kIn) va2
    ⟨_, vs, rfl, len, upd_same, fun H2 k ex => ⟨rfl, ho _ H2 free (fun b o e => ?_) ex⟩⟩) fun r s' z => ?_
  · have nb : b ≠ hp.objs.size + 1 := ne_of_none e free
    exact k b o nb ((upd_ne nb).trans e)
  · match r, z with
    | .ok (.ret u), z =>
      obtain ⟨v, G, J, rel, ev, q⟩ := I2.after z
      subst ev
      exact ⟨rel, .ref (hp.objs.size + 1), G, J, rfl, q⟩
    | .ok .next, z => exact z.elim
    | .ok .brk, z => exact z.elim
    | .ok .cont, z => exact z.elim
    | .error er, z => exact z.elim
theorem pe_xmk {e : Expr} {es : List Expr} {t : TA} (T : Xk X.K C fI B newId initId bmB) (F : FnOk X.prog X.w X.K X.mg X.base CX0 n fI fd ps (spXI C fn)) (room : Room (n + 1) X.A) (bi : Binds X.K fd ps []) (hps : ps.length = fn.length + 1)
    (hg : Gl X x) (hm : X.mg x = some (.ref C)) (ha : PA X (e :: es) t) (nd : (x == ("__debug__" : Str)) = false := by decide)
    (se : starEach (e :: es) X.env = (false, eval e X.env) :: starEach es X.env := by rfl) (sn : (backTo pos (starEach es X.env)).any (·.1) = false := by rfl) :
    PE X (.Call (.Name x p) (e :: es) [] pos) (tXmk C fn t) where
  run := fun pins s σ H Q I h => by
    refine wpAny_Call_Name_kw (ld_glob I hg hm ?_ nd)
    refine PySem.W.callWith_K (h₀ := X.base) I.ok.mod.kin T.keep (thn (ha.run pos pins s σ H _ I h) fun us s1 ⟨vs, H1, I1, r1, hl, hz, q1⟩ => ⟨I1.kIn, ?_⟩) se sn
    show wpAny _ _ (call (.ref C) us) _ _ _
    obtain ⟨hp, g, dr, tk, os⟩ := s1
    obtain ⟨nm, N, qn, bs, bm, hdct, sn, sub, ab, col, dd, k0, k1, k2, k3, k5, hC, same⟩ := PySem.W.excInit_of I1.kIn T.made
    have lu : us.length = fn.length := r1.length.symm.trans hl
    refine wpAny_call (PySem.HandSPX.call_own T.fb same hC (PySem.W.looks_findIn I1.kIn T.init) (fun self => PySem.W.bind_fn I1.kIn self T.fn) (by rw [sizeLine_eq]; omega) ?_)
    refine codeAny_mono (xmade (Q := Q) T F room I1 us [] (args := ⟨Value.ref (hp.objs.size + 1) :: us, []⟩) (us := us) (fun s2 k2 => ?_) r1 hl q1) fun r s' z => ?_
    · have z := bi s2 (Value.ref (hp.objs.size + 1) :: us) k2 (by rw [List.append_nil, List.length_cons, lu, hps])
      rw [List.append_nil] at z
      exact z
    · exact z
theorem pe_xmk0 (T : Xk X.K C fI B newId initId bmB) (F : FnOk X.prog X.w X.K X.mg X.base CX0 n fI fd ps (spXI C [])) (room : Room (n + 1) X.A) (bi : Binds X.K fd ps []) (hps : ps.length = 1)
    (hg : Gl X x) (hm : X.mg x = some (.ref C)) (nd : (x == ("__debug__" : Str)) = false := by decide) : PE X (.Call (.Name x p) [] [] pos) (tXmk C [] tNil) where
  run := fun pins s σ H Q I h => by
    refine wpAny_Call_Name_kw (ld_glob I hg hm ?_ nd)
    refine PySem.W.callWith_K0 I.kIn T.keep ?_
    obtain ⟨hp, g, dr, tk, os⟩ := s
    obtain ⟨nm, N, qn, bs, bm, hdct, sn, sub, ab, col, dd, k0, k1, k2, k3, k5, hC, same⟩ := PySem.W.excInit_of I.kIn T.made
    refine wpAny_call (PySem.HandSPX.call_own T.fb same hC (PySem.W.looks_findIn I.kIn T.init) (fun self => PySem.W.bind_fn I.kIn self T.fn) (Nat.zero_le _) ?_)
    refine codeAny_mono (xmade (Q := Q) (vs := []) T F room I [] [] (args := ⟨[Value.ref (hp.objs.size + 1)], []⟩) (us := []) (fun s2 k2 => ?_) .nil rfl h.2.2) fun r s' z => z
    have z := bi s2 [Value.ref (hp.objs.size + 1)] k2 (by rw [List.append_nil, hps]; rfl)
    exact z
/-- C(k = v, ..), keywords alone -/
theorem pe_xmkK {kws : List Keyword} {ks : List Str} {t : TA} (T : Xk X.K C fI B newId initId bmB) (F : FnOk X.prog X.w X.K X.mg X.base CX0 n fI fd ps (spXI C fn)) (room : Room (n + 1) X.A)
    (bi : ∀ (s : Shared) (u : Value) (ws : List Value), X.K.In s.heap → ws.length = ks.length → BindsTo s fd ⟨[u], ks.zip ws⟩ (ps.zip (u :: ws))) (lk : ks.length = fn.length)
    (hg : Gl X x) (hm : X.mg x = some (.ref C)) (ha : PK X kws t) (hall : (backToKw pos (keywordEach kws X.env)).all (·.1.isSome) = true := by rfl) (hks : (backToKw pos (keywordEach kws X.env)).filterMap (·.1) = ks := by rfl)
    (nd : (x == ("__debug__" : Str)) = false := by decide) (sn : ((backTo pos (starEach [] X.env)).any (·.1) || (backToKw pos (keywordEach kws X.env)).any (·.1.isNone)) = false := by rfl) :
    PE X (.Call (.Name x p) [] kws pos) (tXmk C fn t) where
  run := fun pins s σ H Q I h => by
    refine wpAny_Call_Name_kw (ld_glob I hg hm ?_ nd)
    refine PySem.W.callWith_KW0 (h₀ := X.base) I.ok.mod.kin T.keep hall (thn (ha.run pos pins s σ H _ I h) fun ws s1 ⟨vs, H1, I1, r1, hl, hz, q1⟩ => ⟨I1.kIn, ?_⟩) sn
    rw [hks]
    show wpAny _ _ (call (.ref C) [] (ks.zip ws)) _ _ _
    obtain ⟨hp, g, dr, tk, os⟩ := s1
    obtain ⟨nm, N, qn, bs, bm, hdct, sn, sub, ab, col, dd, k0, k1, k2, k3, k5, hC, same⟩ := PySem.W.excInit_of I1.kIn T.made
    have lu : ws.length = ks.length := (r1.length.symm.trans hl).trans lk.symm
    refine wpAny_call (PySem.XV.call_kw T.fb same hC (PySem.W.looks_findIn I1.kIn T.init) (fun self => PySem.W.bind_fn I1.kIn self T.fn) ?_)
    exact codeAny_mono (xmade (Q := Q) T F room I1 [] (ks.zip ws) (args := ⟨[Value.ref (hp.objs.size + 1)], ks.zip ws⟩) (us := ws) (fun s2 k2 => bi s2 _ ws k2 lu) r1 hl q1) fun r s' z => z
end
end PSG

set_option Elab.async false
set_option linter.all false
set_option maxRecDepth 100000
set_option maxHeartbeats 4000000
namespace PSG
open PySem PySem.Spec L2
open PyProof.Rows (IntsAre AllBare)
section
variable {X : Cx} {pins : List (Addr × Obj)} {σ : L2.St} {H : Hp} {s : Shared} {a C : Addr} {fs : List (Str × V)}
theorem exv_inst (I : Inv X pins σ H s) (x : ExV H a C fs) : ∃ ox od, PySem.W.InstAt s.heap a ox C od ∧ ((fs = [] ∧ od = none) ∨ ∃ dx o, od = some o ∧ H dx = some (exd dx fs) ∧ s.heap.get? dx = some o) := by
  rcases x with ⟨e, h⟩ | ⟨d, e, h, h2⟩
  · obtain ⟨t1, ob⟩ := exo_at I.hok h
    exact ⟨_, none, ⟨ob, rfl, rfl, trivial⟩, .inl ⟨e, rfl⟩⟩
  · obtain ⟨t1, ob⟩ := exo_at I.hok h
    obtain ⟨mA, hns, rel⟩ := exd_at I.hok h2
    obtain ⟨o, ho, _⟩ := lookIn_ns hns
    exact ⟨_, some o, ⟨ob, rfl, rfl, ho⟩, .inr ⟨d, o, rfl, h2, ho⟩⟩
/-- e.n, e an exception that stands -/
def tXfld (K : PySem.W.Frag) (n : Str) (te : TE) : TE := fun σ H Q => te σ H fun x H1 => ∃ (a C : Addr) (fs : List (Str × V)) (v : V), x = .ref a ∧ ExV H1 a C fs ∧ PySem.W.XcC K C ∧ PySem.W.findIn K (.ref C) n = some none ∧ fs.lookup n = some v ∧ Q v H1
theorem pe_xfld {e : Expr} {te : TE} {pos : Pos} {n : Str} (he : PE X e te) (hb : attributeBase e n X.env (eval e X.env) = eval e X.env := by rfl) : PE X (.Attribute e n pos) (tXfld X.K n te) where
  run := fun pins s σ H Q I h => by
    refine attr_of hb (thn (he.run pins s σ H _ I h) fun u s1 hh => ?_)
    obtain ⟨x, H1, I1, rx, a, C, fs, v, ex, V1, T, no, l, q⟩ := hh
    subst ex
    cases rx
    rcases V1 with ⟨e, h1⟩ | ⟨d, _, h1, h2⟩
    · rw [e] at l
      cases l
    · obtain ⟨t1, ob⟩ := exo_at I1.hok h1
      obtain ⟨mA, hns, rel⟩ := exd_at I1.hok h2
      obtain ⟨o, ho, look⟩ := lookIn_ns hns
      obtain ⟨w, hw, rw_⟩ := RelO.some_of (v := v) (o := mA n) (by rw [← l]; exact rel n)
      have J : PySem.W.InstAt s1.heap a _ C (some o) := ⟨ob, rfl, rfl, ho⟩
      exact PySem.HandSPX.exc_get I1.kIn J T.get T.get2 T.exc (PySem.W.findObj_own T.dict no rfl (by rw [look, hw])) (handed_of rw_) ⟨v, H1, I1.tok _, rw_, q⟩
/-- isinstance(e, c), e an exception that stands -/
def rXis (K : PySem.W.Frag) : List V → Hp → VK → Prop := fun xs H Q => ∃ (a C : Addr) (fs : List (Str × V)) (c : V) (u : Value) (b : Bool), xs = [.ref a, c] ∧ ClsV c u ∧ ExV H a C fs ∧ PySem.W.XcC K C ∧ PySem.W.kitOne K (.ref C) u = some b ∧ Q (.bl b) H
theorem call_xis : CallR X (.builtin "isinstance") (rXis X.K) := by
  intro pins s σ H xs us Q I r h
  obtain ⟨a, C, fs, c, u, b, rfl, k, x, T, e, q⟩ := h
  obtain ⟨u1, u2, rfl, r1, r2⟩ := vals2 r
  cases r1
  have e2 := k.eq r2
  subst e2
  obtain ⟨ox, od, J, _⟩ := exv_inst I x
  exact PySem.W.kia_one (T.kit (x := a) (ox := ox)) I.kIn ⟨od, J⟩ e (fun z => nomatch z) fun tk => ⟨.bl b, H, I.tok tk, rfl, q⟩
end
/-! ### lists that are new: not sys.modules -/
def tLstF (t : TA) : TE := fun σ H Q => t σ H fun xs H1 => xs.length ≤ sizeLine ∧ ∀ p, H1 p = none → p ≠ sysModules → Q (.ref p) (upd H1 p (.lst xs))
def rCatF : R2 := fun x y H Q => ∃ l b xs zs, x = .ref l ∧ y = .ref b ∧ H l = some (.lst xs) ∧ H b = some (.lst zs) ∧ xs.length + zs.length ≤ sizeLine ∧ ∀ p, H p = none → p ≠ sysModules → Q (.ref p) (upd H p (.lst (xs ++ zs)))
section
variable {X : Cx}
theorem pe_lstF {es : List Expr} {t : TA} {pos : Pos} (h : PA X es t) : PE X (.List es pos) (tLstF t) where
  run := fun pins s σ H Q I ho => by
    refine wpAny_List (thn (h.run pos pins s σ H _ I ho) fun us s1 ⟨xs, H1, I1, r, hz, q⟩ => ?_)
    have hl := r.length
    have new : s1.heap.objs.size ≠ sysModules := Nat.ne_of_gt I1.big
    exact ⟨by omega, .ref s1.heap.objs.size, _, I1.lnew (t' := s1.toks) r hz, rfl, q _ I1.fresh new⟩
theorem op_catF : OpR X (binaryOp .Add) rCatF := by
  intro pins s σ H x y v u Q I rx ry ho
  obtain ⟨l, b, xs, zs, rfl, rfl, h1, h2, hz, q⟩ := ho
  cases rx
  cases ry
  obtain ⟨_, is, _, r, _, e⟩ := I.lstM h1
  obtain ⟨_, js, _, r2, _, e2⟩ := I.lstM h2
  have l1 := r.length
  have l2 := r2.length
  refine PySem.P.add_list e e2 ?_ (by rw [List.size_toArray, List.size_toArray]; omega)
  rw [show is.toArray ++ js.toArray = (is ++ js).toArray by simp]
  have new : s.heap.objs.size ≠ sysModules := Nat.ne_of_gt I.big
  exact ⟨.ref s.heap.objs.size, _, I.lnew (t' := s.toks) (r.append r2) (by rw [List.length_append]; omega), rfl, q _ I.fresh new⟩
end
/-! ### heaps, data, draws -/
/-- what is tracked now and was not then -/
def news (B H : Hp) : Hp := fun b => match B b with | none => H b | some _ => none
theorem news_at {B H : Hp} {b : Addr} {o : HO} (h : B b = none) (e : H b = some o) : news B H b = some o := by
  unfold news
  rw [h]
  exact e
theorem news_of {B H : Hp} {b : Addr} {o : HO} (e : news B H b = some o) : B b = none ∧ H b = some o := by
  unfold news at e
  cases q : B b with
  | none =>
    rw [q] at e
    exact ⟨rfl, e⟩
  | some u =>
    rw [q] at e
    cases e
theorem news_sub {B H : Hp} : Same (news B H) H := fun _ _ e => (news_of e).2
mutual
theorem Dt.same {far : Bool} {H H' : Hp} (s : Same H H') : ∀ {v : V} {d : PyData}, Dt far H v d → Dt far H' v d
  | _, _, .non => .non
  | _, _, .bl b => .bl b
  | _, _, .int i => .int i
  | _, _, .str x => .str x
  | _, _, .lst e f t => .lst (s _ _ e) f (DtAll.same s t)
  | _, _, .tup e t => .tup (s _ _ e) (DtAll.same s t)
  | _, _, .dict e p => .dict (s _ _ e) p
theorem DtAll.same {far : Bool} {H H' : Hp} (s : Same H H') : ∀ {vs : List V} {ds : List PyData}, DtAll far H vs ds → DtAll far H' vs ds
  | _, _, .nil => .nil
  | _, _, .cons h t => .cons (Dt.same s h) (DtAll.same s t)
end
theorem DtAll.length {far : Bool} {H : Hp} : ∀ {vs : List V} {ds : List PyData}, DtAll far H vs ds → vs.length = ds.length
  | _, _, .nil => rfl
  | _, _, .cons _ t => congrArg Nat.succ (DtAll.length t)
theorem DtAll.append {far : Bool} {H : Hp} : ∀ {vs ws : List V} {ds es : List PyData}, DtAll far H vs ds → DtAll far H ws es → DtAll far H (vs ++ ws) (ds ++ es)
  | _, _, _, _, .nil, h => h
  | _, _, _, _, .cons h t, h2 => .cons h (DtAll.append t h2)
theorem DtAll.get {far : Bool} {H : Hp} : ∀ {vs : List V} {ds : List PyData} {i : Nat} {v : V}, DtAll far H vs ds → vs[i]? = some v → ∃ d, ds[i]? = some d ∧ Dt far H v d
  | _, _, i, _, .nil, e => by simp at e
  | _, _, 0, _, .cons h _, e => by
    have e' := Option.some.inj e
    subst e'
    exact ⟨_, rfl, h⟩
  | _, _, i + 1, _, .cons _ t, e => DtAll.get (i := i) t e
/-- all but the object at r is as it was -/
def But (r : Addr) (H H' : Hp) : Prop := ∀ b o, b ≠ r → H b = some o → H' b = some o
theorem But.refl {r : Addr} {H : Hp} : But r H H := fun _ _ _ e => e
theorem But.trans {r : Addr} {H H1 H2 : Hp} (a : But r H H1) (b : But r H1 H2) : But r H H2 := fun c o n e => b c o n (a c o n e)
theorem But.of {r : Addr} {H H' : Hp} (s : Same H H') : But r H H' := fun b o _ e => s b o e
theorem But.at {r : Addr} {H : Hp} {o : HO} : But r H (upd H r o) := fun b _ n e => (upd_ne n).trans e
theorem same_new {H : Hp} {p : Addr} {o : HO} (h : H p = none) : Same H (upd H p o) := fun b x e => (upd_ne (ne_of_none e h)).trans e
/-- at r: the two numbers that the draws are made of -/
def Rg (H : Hp) (r : Addr) : Prop := ∃ x y : Int, H r = some (.lst [.int x, .int y]) ∧ 0 ≤ x ∧ 0 ≤ y ∧ y < 2147483587
theorem Rg.some {H : Hp} {r : Addr} (g : Rg H r) : ∃ o, H r = some o := by
  obtain ⟨x, y, e, _⟩ := g
  exact ⟨_, e⟩
theorem Rg.new {H : Hp} {r p : Addr} {o : HO} (g : Rg H r) (h : H p = none) : Rg (upd H p o) r := by
  obtain ⟨x, y, e, z⟩ := g
  exact ⟨x, y, (upd_ne (ne_of_none e h)).trans e, z⟩
theorem Rg.same {H H' : Hp} {r : Addr} (g : Rg H r) (s : Same H H') : Rg H' r := by
  obtain ⟨x, y, e, z⟩ := g
  exact ⟨x, y, s _ _ e, z⟩
/-- what is new stays, where all that is not new may change -/
theorem news_but {B H H' : Hp} {r : Addr} (s : But r H H') (there : ∃ o, B r = some o) : Same (news B H) (news B H') := fun b o e => by
  obtain ⟨h1, h2⟩ := news_of e
  obtain ⟨u, hu⟩ := there
  exact news_at h1 (s b o (fun z => by rw [z, hu] at h1; cases h1) h2)
theorem news_up {B H H' : Hp} (d : ∀ b o, B b = some o → ∃ u, H b = some u) : Same (news H H') (news B H') := fun b o e => by
  obtain ⟨h1, h2⟩ := news_of e
  refine news_at ?_ h2
  cases q : B b with
  | none => rfl
  | some u =>
    obtain ⟨x, hx⟩ := d b u q
    rw [h1] at hx
    cases hx
theorem But.dom {r : Addr} {H H' : Hp} (s : But r H H') (g : ∃ o, H' r = some o) : ∀ b o, H b = some o → ∃ u, H' b = some u := fun b o e => by
  by_cases hb : b = r
  · rw [hb]
    exact g
  · exact ⟨o, s b o hb e⟩
/-- data with a short text, not deep -/
structure Nice (d : PyData) : Prop where
  sh : d.showable = true
  ln : d.shown.length ≤ 100
  dp : d.depth ≤ 6
end PSG

set_option Elab.async false
set_option linter.all false
set_option maxRecDepth 100000
set_option maxHeartbeats 8000000
namespace K11
open PySem PySem.Spec L2 PSG
open PyProof.Rows (IntsAre AllBare)
def topS (i : Nat) : Stmt := PySem.Challenge.pw_pairsigns_k11_errors_created.main.body.getD i (.Pass ⟨0, 0, 0, 0⟩)
abbrev s__law_rng : Stmt := topS 32
theorem sc__law_rng : FnScope ["_law_script", "_law_k", "_law_cell"] ["_law_script", "_law_k"] (defScope s__law_rng) := ⟨rfl, rfl, rfl, by decide +kernel, rfl, by decide +kernel, by decide +kernel⟩
abbrev s__law_draw : Stmt := topS 33
theorem sc__law_draw : FnScope ["_law_rng_here", "_law_many", "_law_digit", "_law_mixed"] ["_law_rng_here", "_law_many"] (defScope s__law_draw) := ⟨rfl, rfl, rfl, by decide +kernel, rfl, by decide +kernel, by decide +kernel⟩
abbrev s__law_choice : Stmt := topS 34
theorem sc__law_choice : FnScope ["_law_rng_here", "_law_options"] ["_law_rng_here", "_law_options"] (defScope s__law_choice) := ⟨rfl, rfl, rfl, by decide +kernel, rfl, by decide +kernel, by decide +kernel⟩

/-- the built-ins that the module leaves as they are -/
structure Blt (mg : Str → Option Value) : Prop where
  n_len : mg "len" = none
  n_max : mg "max" = none
  n_min : mg "min" = none
  n_abs : mg "abs" = none
  n_int : mg "int" = none
  n_divmod : mg "divmod" = none
  n_range : mg "range" = none
  n_enumerate : mg "enumerate" = none
  n_isinstance : mg "isinstance" = none
  n_repr : mg "repr" = none
  n_ValueError : mg "ValueError" = none
  n_LookupError : mg "LookupError" = none
  n_RuntimeError : mg "RuntimeError" = none
  n_ArithmeticError : mg "ArithmeticError" = none
section
variable {P : Program} {w : World} {K : PySem.W.Frag} {mg : Str → Option Value} {base : Heap}
def spRng (K : PySem.W.Frag) : Sp := fun vs H Q _ => ∃ (a : Addr) (ns : List Int) (k : Nat), vs = [.ref a, .int k] ∧ SqL K H a (ns.map V.int) ∧ k ≤ 1000 ∧ ∀ p x y, H p = none → (0 : Int) ≤ x → 0 ≤ y → y < 2147483587 → Q (.ref p) (upd H p (.lst [.int x, .int y]))
theorem ok_rng {f : Addr} {fd : FuncData} (F : Fun K "_law_rng" "_law_rng" s__law_rng f fd) (T : Blt mg) : FnOk P w K mg base CX0 1 f fd ["_law_script", "_law_k"] (spRng K) := by
  have sc := sc__law_rng
  refine F.ok sc (fun vs H Q E h => ?_) (fun cdv A outer s H vs Q E hr h => ?_)
  · obtain ⟨a, ns, k, rfl, _⟩ := h
    rfl
  · obtain ⟨a, ns, k, rfl, hS, hk, q⟩ := h
    refine ⟨_, (pss_cons (ps_set (i := 2) sc.nd rfl (.inl rfl) (pe_op op_add (pe_op op_mul pe_int (pv 1)) pe_int))
      (pss_cons (ps_if (pt_cmpR op_lt (pv 1) (pe_callB call_len_seq (by rfl) T.n_len PySem.boot_len (pa_cons (pv 0) pa_nil)) (nomark _)) (pss_one (ps_set (i := 2) sc.nd rfl (.inl rfl) (pe_ix ix_list (pv 0) (pv 1) (fun _ _ => rfl)))) pss_nil)
      (pss_one (ps_ret (pe_lst (pa_cons (pe_callB (call_max2 rfl) (by rfl) T.n_max (by decide +kernel) (pa_cons pe_int (pa_cons (pe_op op_sub (pe_callB call_abs (by rfl) T.n_abs (by decide +kernel) (pa_cons (pv 2) pa_nil)) (pe_op op_pow pe_int pe_int)) pa_nil))) (pa_cons (pe_op op_add (pe_op op_mod (pe_callTy call_int1 (by rfl) T.n_int (by decide +kernel) (pa_cons (pe_op op_mul (pe_op op_add (pe_op op_mod (pe_callTy call_int1 (by rfl) T.n_int (by decide +kernel) (pa_cons (pe_callB call_abs (by rfl) T.n_abs (by decide +kernel) (pa_cons (pv 2) pa_nil)) pa_nil)) pe_int) pe_int) (pe_op op_pow (pe_op op_add (pv 1) pe_int) pe_int)) pa_nil)) pe_int) pe_int) pa_nil))))))), ?_⟩
    refine ⟨_, rfl, _, _, rfl, rfl, .inl ⟨by decide, by decide⟩, _, _, rfl, rfl, ?_⟩
    refine ⟨_, rfl, _, rfl, a, _, rfl, .inl hS, _, _, rfl, rfl, _, rfl, ite2 (fun e => ?_) (fun e => ?_)⟩
    · have lt : k < (ns.map V.int).length := by
        have e1 := of_decide_eq_true e
        omega
      rw [List.length_map] at lt
      have at_ : (ns.map V.int)[k]? = some (.int ns[k]) := by
        rw [List.getElem?_map, List.getElem?_eq_getElem lt]
        rfl
      refine ⟨_, rfl, _, rfl, a, _, _, _, rfl, rfl, hS, atI_nat at_, ?_⟩
      refine ⟨_, rfl, _, rfl, _, _, rfl, rfl, ⟨by decide, by decide, by decide⟩, _, _, rfl, rfl, _, _, rfl, _, rfl, _, rfl, .inl ⟨_, rfl, _, _, rfl, rfl, (by show (0 : Int) < _; decide), _, _, rfl, rfl, _, rfl, _, _, rfl, rfl, _, _, rfl, rfl,
        ⟨by decide, by decide, by omega⟩, _, _, rfl, rfl, .inl ⟨by omega, by omega⟩, .inl ⟨_, rfl, _, _, rfl, rfl, (by show (0 : Int) < _; decide), _, _, rfl, rfl, (by show 2 ≤ sizeLine; decide), fun p hp => ?_⟩⟩⟩
      exact q p _ _ hp (by split <;> omega) (by omega) (by omega)
    · refine ⟨_, rfl, _, rfl, _, _, rfl, rfl, ⟨by decide, by decide, by decide⟩, _, _, rfl, rfl, _, _, rfl, _, rfl, _, rfl, .inl ⟨_, rfl, _, _, rfl, rfl, (by show (0 : Int) < _; decide), _, _, rfl, rfl, _, rfl, _, _, rfl, rfl, _, _, rfl, rfl,
        ⟨by decide, by decide, by omega⟩, _, _, rfl, rfl, .inl ⟨by omega, by omega⟩, .inl ⟨_, rfl, _, _, rfl, rfl, (by show (0 : Int) < _; decide), _, _, rfl, rfl, (by show 2 ≤ sizeLine; decide), fun p hp => ?_⟩⟩⟩
      exact q p _ _ hp (by split <;> omega) (by omega) (by omega)
theorem pylong_no {i j : Int} (h0 : 0 < j) (h : j < 2 ^ 200) : CDivP i j := by
  refine ⟨h0, ?_⟩
  have lg : j.natAbs.log2 < 200 := PySem.Flt.log2_lt_of (by decide) (by omega)
  unfold Builtin.divisionGoesByPylong
  have small : ¬ (300 < if (j == 0) = true then 0 else j.natAbs.log2 / 30 + 1) := by split <;> omega
  exact Bool.and_eq_false_iff.mpr (.inl (decide_eq_false small))
def nx (y : Int) : Int := (y * 48283 + 10007) % 2147483587
theorem nx_lo (y : Int) : 0 ≤ nx y := Int.emod_nonneg _ (by decide)
theorem nx_hi (y : Int) : nx y < 2147483587 := Int.emod_lt_of_pos _ (by decide)
/-- a draw below m -/
def spDraw : Sp := fun vs H Q _ => ∃ (r : Addr) (m : Int), vs = [.ref r, .int m] ∧ Rg H r ∧ 0 < m ∧ m < 2 ^ 200 ∧ ∀ d H', (0 : Int) ≤ d → d < m → Rg H' r → But r H H' → Q (.int d) H'
theorem ok_draw {f : Addr} {fd : FuncData} (F : Fun K "_law_draw" "_law_draw" s__law_draw f fd) (T : Blt mg) : FnOk P w K mg base CX0 1 f fd ["_law_rng_here", "_law_many"] spDraw := by
  have sc := sc__law_draw
  refine F.ok sc (fun vs H Q E h => ?_) (fun cdv A outer s H vs Q E hr h => ?_)
  · obtain ⟨r, m, rfl, _⟩ := h
    rfl
  · obtain ⟨r, m, rfl, ⟨x, y, hR, hx, hy, hy2⟩, hm, hm2, q⟩ := h
    have hS : SqL K H r [.int x, .int y] := SqL.of hR
    refine ⟨_, (pss_cons (ps_if (pt_cmpR op_gt (pe_ix ix_list (pv 0) pe_int (fun _ _ => rfl)) pe_int (nomark _)) (pss_cons (ps_asg (pe_callB call_divmodW (by rfl) T.n_divmod (by decide +kernel) (pa_cons (pe_ix ix_list (pv 0) pe_int (fun _ _ => rfl)) (pa_cons (pv 1) pa_nil))) (pg_tup (by rfl) (pgs_cons (pg_sub (pv 0) pe_int set_list) (pgs_cons (pg_name (i := 2) sc.nd rfl (.inl rfl)) pgs_nil))))
      (pss_one (ps_ret (pv 2)))) pss_nil)
      (pss_cons (ps_asg (pe_op op_mod (pe_callTy call_int1 (by rfl) T.n_int (by decide +kernel) (pa_cons (pe_op op_add (pe_op op_mul (pe_ix ix_list (pv 0) pe_int (fun _ _ => rfl)) pe_int) pe_int) pa_nil)) pe_int) (pg_sub (pv 0) pe_int set_list))
      (pss_cons (ps_set (i := 3) sc.nd rfl (.inl rfl) (pe_op op_fdiv (pe_op op_mod (pe_callTy call_int1 (by rfl) T.n_int (by decide +kernel) (pa_cons (pe_op op_mul (pe_ix ix_list (pv 0) pe_int (fun _ _ => rfl)) (pe_ix ix_list (pv 0) pe_int (fun _ _ => rfl))) pa_nil)) pe_int) pe_int))
      (pss_cons (ps_if (pt_cmpR op_lt (pv 1) (pe_op op_pow pe_int pe_int) (nomark _)) (pss_one (ps_ret (pe_op op_mod (pe_callTy call_int1 (by rfl) T.n_int (by decide +kernel) (pa_cons (pv 3) pa_nil)) (pv 1)))) pss_nil)
      (pss_one (ps_ret (pe_op op_mod (pe_callTy call_int1 (by rfl) T.n_int (by decide +kernel) (pa_cons (pe_op op_add (pe_op op_mul (pe_op op_add (pe_op op_mul (pv 3) pe_int) (pe_ix ix_list (pv 0) pe_int (fun _ _ => rfl))) pe_int) (pv 3)) pa_nil)) (pv 1)))))))), ?_⟩
    refine ⟨_, rfl, _, _, _, _, rfl, rfl, hS, atI_nat (j := 0) rfl, _, _, rfl, rfl, _, rfl, ite2 (fun e => ?_) (fun e => ?_)⟩
    · refine ⟨_, rfl, _, _, _, _, rfl, rfl, hS, atI_nat (j := 0) rfl, _, rfl, _, _, rfl, pylong_no hm hm2, fun p hp => ?_⟩
      have npr : r ≠ p := ne_of_none hR hp
      refine ⟨p, _, rfl, .inl (.inl upd_same), rfl, _, _, rfl, _, rfl, r, _, _, 0, rfl, rfl, (upd_ne npr).trans hR, rfl, _, _, rfl, rfl, ?_⟩
      refine ⟨_, rfl, q _ _ (Int.emod_nonneg _ (by omega)) (Int.emod_lt_of_pos _ hm) ⟨_, _, upd_same, Int.ediv_nonneg hx (by omega), hy, hy2⟩ ((But.of (same_new hp)).trans But.at)⟩
    · refine ⟨_, rfl, _, _, _, _, rfl, rfl, hS, atI_nat (j := 1) rfl, _, _, rfl, rfl, .inr ⟨by decide, by decide⟩, _, _, rfl, rfl, .inl ⟨_, rfl, _, _, rfl, rfl, (by show (0 : Int) < _; decide), _, rfl, r, _, _, 1, rfl, rfl, hR, rfl, ?_⟩⟩
      have hR1 : (upd H r (.lst [.int x, .int (nx y)])) r = some (.lst [.int x, .int (nx y)]) := upd_same
      have hS1 : SqL K (upd H r (.lst [.int x, .int (nx y)])) r [.int x, .int (nx y)] := SqL.of hR1
      have hz0 := nx_lo y
      have hz1 := nx_hi y
      refine ⟨_, rfl, _, _, _, _, rfl, rfl, hS1, atI_nat (j := 1) rfl, _, rfl, _, _, _, _, rfl, rfl, hS1, atI_nat (j := 1) rfl, _, _, rfl, rfl, .inl ⟨by omega, by omega⟩, .inl ⟨_, rfl, _, _, rfl, rfl, (by show (0 : Int) < _; decide), _, _, rfl, rfl, ⟨by decide, by decide⟩, ?_⟩⟩
      refine ⟨_, rfl, _, _, rfl, rfl, ⟨by decide, by decide, by decide⟩, _, _, rfl, rfl, _, rfl, ite2 (fun e => ?_) (fun e => ?_)⟩
      · refine ⟨_, rfl, .inl ⟨_, rfl, _, rfl, _, _, rfl, rfl, hm, ?_⟩⟩
        exact q _ _ (Int.emod_nonneg _ (by omega)) (Int.emod_lt_of_pos _ hm) ⟨_, _, hR1, hx, hz0, hz1⟩ But.at
      · refine ⟨_, rfl, _, _, rfl, rfl, .inr ⟨by decide, by decide⟩, _, rfl, _, _, _, _, rfl, rfl, hS1, atI_nat (j := 1) rfl, _, _, rfl, rfl, _, _, rfl, rfl, .inr ⟨by decide, by decide⟩, _, rfl, _, _, rfl, rfl, .inl ⟨_, rfl, _, rfl, _, _, rfl, rfl, hm, ?_⟩⟩
        exact q _ _ (Int.emod_nonneg _ (by omega)) (Int.emod_lt_of_pos _ hm) ⟨_, _, hR1, hx, hz0, hz1⟩ But.at
/-- one of a list's items -/
def spChoice (K : PySem.W.Frag) : Sp := fun vs H Q _ => ∃ (r o : Addr) (xs : List V), vs = [.ref r, .ref o] ∧ Rg H r ∧ H o = some (.lst xs) ∧ o ≠ r ∧ xs ≠ [] ∧ xs.length ≤ 1000 ∧ ∀ v H', v ∈ xs → Rg H' r → But r H H' → Q v H'
theorem ok_choice {f fD : Addr} {fd fdD : FuncData} (F : Fun K "_law_choice" "_law_choice" s__law_choice f fd) (T : Blt mg) (F__law_draw : Fun K "_law_draw" "_law_draw" s__law_draw fD fdD) (b__law_draw : Binds K fdD ["_law_rng_here", "_law_many"] [])
    (g__law_draw : mg "_law_draw" = some (.ref fD)) : FnOk P w K mg base CX0 2 f fd ["_law_rng_here", "_law_options"] (spChoice K) := by
  have sc := sc__law_choice
  have G__law_draw : FnOk P w K mg base CX0 1 fD fdD ["_law_rng_here", "_law_many"] spDraw := ok_draw F__law_draw T
  refine F.ok sc (fun vs H Q E h => ?_) (fun cdv A outer s H vs Q E hr h => ?_)
  · obtain ⟨r, o, xs, rfl, _⟩ := h
    rfl
  · obtain ⟨r, o, xs, rfl, hR, hO, hne, hx, hl, q⟩ := h
    have pos : 0 < xs.length := List.length_pos_iff.mpr hx
    refine ⟨_, (pss_one (ps_ret (pe_ix ix_list (pv 1) (pe_call G__law_draw hr (by rfl) g__law_draw F__law_draw.kp b__law_draw .nil pass0 (pa_cons (pv 0) (pa_cons (pe_callB call_len_seq (by rfl) T.n_len PySem.boot_len (pa_cons (pv 1) pa_nil)) pa_nil))) (fun _ _ => rfl)))), ?_⟩
    refine ⟨_, rfl, _, rfl, _, rfl, _, _, rfl, .inl (SqL.of hO), r, _, rfl, hR, by omega, by omega, fun d H' h0 h1 g' b' => ?_⟩
    have hO' := b' _ _ hne hO
    have lt : d.toNat < xs.length := by omega
    have e : atI xs ((d.toNat : Nat) : Int) = some xs[d.toNat] := atI_nat (List.getElem?_eq_getElem lt)
    rw [Int.toNat_of_nonneg h0] at e
    exact ⟨_, _, d, xs[d.toNat], rfl, rfl, SqL.of hO', e, q _ _ (List.getElem_mem lt) g' b'⟩
end
end K11

set_option Elab.async false
set_option linter.all false
set_option maxRecDepth 100000
set_option maxHeartbeats 8000000
namespace K11
open PySem PySem.Spec L2 PSG
open PyProof.Rows (IntsAre AllBare)
abbrev s__law_thing : Stmt := topS 35
theorem sc__law_thing : FnScope ["_law_rng_here", "_law_some"] ["_law_rng_here"] (defScope s__law_thing) := ⟨rfl, rfl, rfl, by decide +kernel, rfl, by decide +kernel, by decide +kernel⟩

section
variable {P : Program} {w : World} {K : PySem.W.Frag} {mg : Str → Option Value} {base : Heap}
/-- one of the menu: data, all of it new -/
def spThing : Sp := fun vs H Q _ => ∃ r : Addr, vs = [.ref r] ∧ Rg H r ∧ ∀ v d H', Rg H' r → But r H H' → Dt true (news H H') v d → Nice d → Q v H'
theorem nice_dec {d : PyData} (h : (d.showable && decide (d.shown.length ≤ 100) && decide (d.depth ≤ 6)) = true) : Nice d := by
  simp only [Bool.and_eq_true, decide_eq_true_eq] at h
  exact ⟨h.1.1, h.1.2, h.2⟩
theorem ok_thing {f fD fC : Addr} {fd fdD fdC : FuncData} (F : Fun K "_law_thing" "_law_thing" s__law_thing f fd) (T : Blt mg) (FD : Fun K "_law_draw" "_law_draw" s__law_draw fD fdD) (bD : Binds K fdD ["_law_rng_here", "_law_many"] [])
    (gD : mg "_law_draw" = some (.ref fD)) (F__law_choice : Fun K "_law_choice" "_law_choice" s__law_choice fC fdC) (b__law_choice : Binds K fdC ["_law_rng_here", "_law_options"] []) (g__law_choice : mg "_law_choice" = some (.ref fC)) :
    FnOk P w K mg base CX0 3 f fd ["_law_rng_here"] spThing := by
  have sc := sc__law_thing
  have G__law_choice : FnOk P w K mg base CX0 2 fC fdC ["_law_rng_here", "_law_options"] (spChoice K) := ok_choice F__law_choice T FD bD gD
  refine F.ok sc (fun vs H Q E h => ?_) (fun cdv A outer s H vs Q E hr h => ?_)
  · obtain ⟨r, rfl, _⟩ := h
    rfl
  · obtain ⟨r, rfl, hR, q⟩ := h
    have free : ∀ {H1 : Hp}, Same H H1 → ∀ {p : Addr}, H1 p = none → H p = none := fun s p h => s.free h
    refine ⟨_, (pss_cons (ps_set (i := 1) sc.nd rfl (.inl rfl) (pe_lstF (pa_cons pe_non (pa_cons pe_bl (pa_cons pe_bl (pa_cons pe_int (pa_cons (pe_un un_neg pe_int) (pa_cons pe_int (pa_cons (pe_op op_pow pe_int pe_int) (pa_cons pe_str (pa_cons pe_str (pa_cons pe_str (pa_cons (pe_tup pa_nil) (pa_cons (pe_tup (pa_cons pe_int (pa_cons pe_int pa_nil))) (pa_cons (pe_lstF pa_nil) (pa_cons (pe_lstF (pa_cons (pe_tup (pa_cons pe_int pa_nil)) pa_nil)) (pa_cons pe_dnewK (pa_cons (pe_disp (pps_cons pe_str pe_int pps_nil) (by rfl) (by rfl) (fun z => by cases z) (by decide)) (pa_cons (pe_tup (pa_cons pe_str (pa_cons (pe_tup pa_nil) pa_nil))) pa_nil)))))))))))))))))))
      (pss_one (ps_ret (pe_call G__law_choice (hr) (by rfl) g__law_choice F__law_choice.kp b__law_choice .nil pass0 (pa_cons (pv 0) (pa_cons (pv 1) pa_nil)))))), ?_⟩
    refine ⟨_, rfl, _, _, rfl, rfl, ⟨by decide, by decide, by decide⟩, ?_⟩
    -- ()
    refine ⟨Nat.zero_le _, fun p1 h1 => ?_⟩
    have a1 : upd H p1 (.tup []) p1 = some (.tup []) := upd_same
    have s1 : Same H (upd H p1 (.tup [])) := same_new h1
    generalize upd H p1 (.tup []) = H1 at a1 s1 ⊢
    -- (0, 1)
    refine ⟨(by show 2 ≤ sizeLine; decide), fun p2 h2 => ?_⟩
    have a2 : upd H1 p2 (.tup [.int 0, .int 1]) p2 = some (.tup [.int 0, .int 1]) := upd_same
    have s2 : Same H1 (upd H1 p2 (.tup [.int 0, .int 1])) := same_new h2
    generalize upd H1 p2 (.tup [.int 0, .int 1]) = H2 at a2 s2 ⊢
    -- []
    refine ⟨Nat.zero_le _, fun p3 h3 f3 => ?_⟩
    have a3 : upd H2 p3 (.lst []) p3 = some (.lst []) := upd_same
    have s3 : Same H2 (upd H2 p3 (.lst [])) := same_new h3
    generalize upd H2 p3 (.lst []) = H3 at a3 s3 ⊢
    -- [(0,)]
    refine ⟨(by show 1 ≤ sizeLine; decide), fun p4 h4 => ?_⟩
    have a4 : upd H3 p4 (.tup [.int 0]) p4 = some (.tup [.int 0]) := upd_same
    have s4 : Same H3 (upd H3 p4 (.tup [.int 0])) := same_new h4
    generalize upd H3 p4 (.tup [.int 0]) = H4 at a4 s4 ⊢
    refine ⟨(by show 1 ≤ sizeLine; decide), fun p5 h5 f5 => ?_⟩
    have a5 : upd H4 p5 (.lst [.ref p4]) p5 = some (.lst [.ref p4]) := upd_same
    have s5 : Same H4 (upd H4 p5 (.lst [.ref p4])) := same_new h5
    generalize upd H4 p5 (.lst [.ref p4]) = H5 at a5 s5 ⊢
    -- {}
    refine fun p6 h6 => ?_
    have a6 : upd H5 p6 (.dK []) p6 = some (.dK []) := upd_same
    have s6 : Same H5 (upd H5 p6 (.dK [])) := same_new h6
    generalize upd H5 p6 (.dK []) = H6 at a6 s6 ⊢
    -- {'a': 1}
    refine fun p7 h7 => ⟨upd_same, [(Sum.inr "a", .int 1)], rfl, by decide, ?_⟩
    have a7 : upd (upd H6 p7 (.dK [])) p7 (.dK (mergeK [] [(Sum.inr "a", .int 1)])) p7 = some (.dK [(Sum.inr "a", .int 1)]) := upd_same
    have s7 : Same H6 (upd (upd H6 p7 (.dK [])) p7 (.dK (mergeK [] [(Sum.inr "a", .int 1)]))) := by
      rw [upd_upd]
      exact same_new h7
    generalize upd (upd H6 p7 (.dK [])) p7 (.dK (mergeK [] [(Sum.inr "a", .int 1)])) = H7 at a7 s7 ⊢
    -- ('key', ())
    refine ⟨Nat.zero_le _, fun p8 h8 => ?_⟩
    have a8 : upd H7 p8 (.tup []) p8 = some (.tup []) := upd_same
    have s8 : Same H7 (upd H7 p8 (.tup [])) := same_new h8
    generalize upd H7 p8 (.tup []) = H8 at a8 s8 ⊢
    refine ⟨(by show 2 ≤ sizeLine; decide), fun p9 h9 => ?_⟩
    have a9 : upd H8 p9 (.tup [.str "key", .ref p8]) p9 = some (.tup [.str "key", .ref p8]) := upd_same
    have s9 : Same H8 (upd H8 p9 (.tup [.str "key", .ref p8])) := same_new h9
    generalize upd H8 p9 (.tup [.str "key", .ref p8]) = H9 at a9 s9 ⊢
    -- the menu
    refine ⟨(by show 17 ≤ sizeLine; decide), fun p h f => ?_⟩
    have t9 : Same H H9 := s1.trans (s2.trans (s3.trans (s4.trans (s5.trans (s6.trans (s7.trans (s8.trans s9)))))))
    have npr : p ≠ r := fun z => by
      obtain ⟨o, e⟩ := (hR.same t9).some
      rw [z, e] at h
      cases h
    refine ⟨_, rfl, _, rfl, r, p, _, rfl, (hR.same t9).new h, upd_same, npr, List.cons_ne_nil _ _, (by show 17 ≤ 1000; decide), fun v H' hv g' b' => ?_⟩
    have sz : ∀ u, Same H9 (upd H9 p u) := fun u => same_new h
    have fr : But r H H' := (But.of (t9.trans (sz _))).trans b'
    -- what is new stands at the end
    have up : ∀ {Hk : Hp}, Same H Hk → Same Hk H9 → ∀ {pk : Addr} {o : HO}, Hk pk = none → ∀ {Hm : Hp}, Hm pk = some o → Same Hm H9 → news H H' pk = some o := by
      intro Hk h0 _ pk o hn Hm hm hs
      have n0 : H pk = none := h0.free hn
      refine news_at n0 (b' _ _ (fun z => ?_) (sz _ _ _ (hs _ _ hm)))
      obtain ⟨u, hu⟩ := hR.some
      rw [z, hu] at n0
      cases n0
    have z1 := s2.trans (s3.trans (s4.trans (s5.trans (s6.trans (s7.trans (s8.trans s9))))))
    have z2 := s3.trans (s4.trans (s5.trans (s6.trans (s7.trans (s8.trans s9)))))
    have z3 := s4.trans (s5.trans (s6.trans (s7.trans (s8.trans s9))))
    have z4 := s5.trans (s6.trans (s7.trans (s8.trans s9)))
    have z5 := s6.trans (s7.trans (s8.trans s9))
    have z6 := s7.trans (s8.trans s9)
    have z7 := s8.trans s9
    have b1 := s1.trans s2
    have b2 := b1.trans s3
    have b3 := b2.trans s4
    have b4 := b3.trans s5
    have b5 := b4.trans s6
    have b6 := b5.trans s7
    have b7 := b6.trans s8
    have n1 := up (Same.refl H) t9 h1 a1 z1
    have n2 := up s1 (s2.trans z2) h2 a2 z2
    have n3 := up b1 z2 h3 a3 z3
    have n4 := up b2 z3 h4 a4 z4
    have n5 := up b3 z4 h5 a5 z5
    have n6 := up b4 z5 h6 a6 z6
    have n7 := up b5 z6 h7 a7 z7
    have n8 := up b6 z7 h8 a8 s9
    have n9 := up b7 s9 h9 a9 (Same.refl _)
    have fin : ∀ d, Dt true (news H H') v d → Nice d → Q v H' := fun d hd hn => q v d H' g' fr hd hn
    simp only [List.mem_cons, List.not_mem_nil, or_false] at hv
    rcases hv with rfl | rfl | rfl | rfl | rfl | rfl | rfl | rfl | rfl | rfl | rfl | rfl | rfl | rfl | rfl | rfl | rfl
    · exact fin _ .non (nice_dec (by decide +kernel))
    · exact fin _ (.bl _) (nice_dec (by decide +kernel))
    · exact fin _ (.bl _) (nice_dec (by decide +kernel))
    · exact fin _ (.int _) (nice_dec (by decide +kernel))
    · exact fin _ (.int _) (nice_dec (by decide +kernel))
    · exact fin _ (.int _) (nice_dec (by decide +kernel))
    · exact fin _ (.int _) (nice_dec (by decide +kernel))
    · exact fin _ (.str _) (nice_dec (by decide +kernel))
    · exact fin _ (.str _) (nice_dec (by decide +kernel))
    · exact fin _ (.str _) (nice_dec (by decide +kernel))
    · exact fin _ (.tup n1 .nil) (nice_dec (by decide +kernel))
    · exact fin _ (.tup n2 (.cons (.int 0) (.cons (.int 1) .nil))) (nice_dec (by decide +kernel))
    · exact fin _ (.lst n3 (fun _ => f3) .nil) (nice_dec (by decide +kernel))
    · exact fin _ (.lst n5 (fun _ => f5) (.cons (.tup n4 (.cons (.int 0) .nil)) .nil)) (nice_dec (by decide +kernel))
    · exact fin _ (.dict (kds := []) n6 .nil) (nice_dec (by decide +kernel))
    · exact fin _ (.dict (kds := [(Sum.inr "a", .int 1)]) n7 (.cons ⟨rfl, rfl⟩ .nil)) (nice_dec (by decide +kernel))
    · exact fin _ (.tup n9 (.cons (.str _) (.cons (.tup n8 .nil) .nil))) (nice_dec (by decide +kernel))
end
end K11

set_option Elab.async false
set_option linter.all false
set_option maxRecDepth 100000
set_option maxHeartbeats 8000000
namespace K11
open PySem PySem.Spec L2 PSG
open PyProof.Rows (IntsAre AllBare)

/-- the attributes of each class -/
def fns : List (List Str) := [["value"], ["value"], ["position"], ["value"], ["value"], ["position"], ["position"], ["position"], ["position"], ["part", "position"], ["path"], [], ["position"], ["position"], ["value"], ["value"], ["value"], ["value"], ["value"], ["value"], ["value"], ["table", "place", "rule"], ["table", "one", "other", "rule"], [], ["path"], ["path"], [], [], ["kind", "limit"]]
theorem ws_0 {ws : List V} (h : ws.length = ([] : List Str).length) : ws = [] := List.eq_nil_of_length_eq_zero h
theorem ws_1 {x : Str} {ws : List V} (h : ws.length = [x].length) : ∃ v, ws = [v] := match ws, h with | [v], _ => ⟨v, rfl⟩
theorem ws_2 {x y : Str} {ws : List V} (h : ws.length = [x, y].length) : ∃ v u, ws = [v, u] := match ws, h with | [v, u], _ => ⟨v, u, rfl⟩
theorem ws_3 {x y z : Str} {ws : List V} (h : ws.length = [x, y, z].length) : ∃ v u t, ws = [v, u, t] := match ws, h with | [v, u, t], _ => ⟨v, u, t, rfl⟩
theorem ws_4 {x y z r : Str} {ws : List V} (h : ws.length = [x, y, z, r].length) : ∃ v u t s, ws = [v, u, t, s] := match ws, h with | [v, u, t, s], _ => ⟨v, u, t, s, rfl⟩
/-- what stands of a class: its name, its place, how it is made -/
structure Ex (P : Program) (w : World) (K : PySem.W.Frag) (mg : Str → Option Value) (base : Heap) (x : Str) (C : Addr) (fn : List Str) : Prop where
  glob : mg x = some (.ref C)
  made : ∃ (fI : Addr) (fd : FuncData) (ps : List Str) (B newId initId : String) (bmB : List Value), Xk K C fI B newId initId bmB ∧ FnOk P w K mg base CX0 1 fI fd ps (spXI C fn) ∧ Binds K fd ps [] ∧ ps.length = fn.length + 1 ∧
    ∀ (s : Shared) (u : Value) (ws : List Value), K.In s.heap → ws.length = fn.length → BindsTo s fd ⟨[u], fn.zip ws⟩ (ps.zip (u :: ws))
section
variable {X : Cx} {x : Str} {C : Addr} {fn : List Str} {p pos : Pos} {e : Expr} {es : List Expr} {kws : List Keyword} {t : TA}
theorem pe_ex (T : Ex X.prog X.w X.K X.mg X.base x C fn) (hr : Room 2 X.A) (hg : Gl X x) (ha : PA X (e :: es) t) (nd : (x == ("__debug__" : Str)) = false := by decide)
    (se : starEach (e :: es) X.env = (false, eval e X.env) :: starEach es X.env := by rfl) (sn : (backTo pos (starEach es X.env)).any (·.1) = false := by rfl) : PE X (.Call (.Name x p) (e :: es) [] pos) (tXmk C fn t) := by
  obtain ⟨fI, fd, ps, B, n1, n2, bm, T1, F, b, l, _⟩ := T.made
  exact pe_xmk T1 F hr b l hg T.glob ha nd se sn
theorem pe_ex0 (T : Ex X.prog X.w X.K X.mg X.base x C []) (hr : Room 2 X.A) (hg : Gl X x) (nd : (x == ("__debug__" : Str)) = false := by decide) : PE X (.Call (.Name x p) [] [] pos) (tXmk C [] tNil) := by
  obtain ⟨fI, fd, ps, B, n1, n2, bm, T1, F, b, l, _⟩ := T.made
  exact pe_xmk0 T1 F hr b l hg T.glob nd
theorem pe_exK (T : Ex X.prog X.w X.K X.mg X.base x C fn) (hr : Room 2 X.A) (hg : Gl X x) (ha : PK X kws t) (hall : (backToKw pos (keywordEach kws X.env)).all (·.1.isSome) = true := by rfl)
    (hks : (backToKw pos (keywordEach kws X.env)).filterMap (·.1) = fn := by rfl) (nd : (x == ("__debug__" : Str)) = false := by decide)
    (sn : ((backTo pos (starEach [] X.env)).any (·.1) || (backToKw pos (keywordEach kws X.env)).any (·.1.isNone)) = false := by rfl) : PE X (.Call (.Name x p) [] kws pos) (tXmk C fn t) := by
  obtain ⟨fI, fd, ps, B, n1, n2, bm, T1, F, b, l, k⟩ := T.made
  exact pe_xmkK T1 F hr k rfl hg T.glob ha hall hks nd sn
end
section
variable {P : Program} {w : World} {K : PySem.W.Frag} {mg : Str → Option Value} {base : Heap} {f C : Addr} {fd : FuncData} {B newId initId : String} {bmB : List Value}
abbrev si0 : Stmt := inClass (topS 2) 0
theorem sci0 : FnScope ["self", "value"] ["self", "value"] (defScope si0) := ⟨rfl, rfl, rfl, by decide +kernel, rfl, by decide +kernel, by decide +kernel⟩
theorem oki0 (F : Fun K "__init__" "InvalidValue.__init__" si0 f fd) (T : Xk K C f B newId initId bmB) (no0 : PySem.W.findIn K (.ref C) "value" = some none) : FnOk P w K mg base CX0 1 f fd ["self", "value"] (spXI C ["value"]) := by
  have sc := sci0
  refine F.ok sc (fun vs H Q E h => ?_) (fun cdv A outer s H vs Q E hr h => ?_)
  · obtain ⟨a, ws, rfl, hl, _⟩ := h
    exact congrArg Nat.succ hl
  · obtain ⟨a, ws, rfl, hl, hH, k⟩ := h
    obtain ⟨v0, rfl⟩ := ws_1 hl
    refine ⟨_, pss_one (ps_xset (pv 0) (pv 1)), ?_⟩
    refine ⟨_, rfl, _, rfl, a, C, f, _, _, _, _, rfl, T, no0, .inl ⟨hH, fun dx nd na => ?_⟩⟩
    have keep : ∀ u : HO, ∀ b o, b ≠ a → H b = some o → (upd (upd H dx u) a (exo a C (some dx))) b = some o := fun u b o hb e => (upd_ne hb).trans ((upd_ne (ne_of_none e nd)).trans e)
    exact k _ (keep _) (.inr ⟨dx, by simp, upd_same, (upd_ne na).trans upd_same⟩)
abbrev si1 : Stmt := inClass (topS 3) 0
theorem sci1 : FnScope ["self", "value"] ["self", "value"] (defScope si1) := ⟨rfl, rfl, rfl, by decide +kernel, rfl, by decide +kernel, by decide +kernel⟩
theorem oki1 (F : Fun K "__init__" "InvalidVector.__init__" si1 f fd) (T : Xk K C f B newId initId bmB) (no0 : PySem.W.findIn K (.ref C) "value" = some none) : FnOk P w K mg base CX0 1 f fd ["self", "value"] (spXI C ["value"]) := by
  have sc := sci1
  refine F.ok sc (fun vs H Q E h => ?_) (fun cdv A outer s H vs Q E hr h => ?_)
  · obtain ⟨a, ws, rfl, hl, _⟩ := h
    exact congrArg Nat.succ hl
  · obtain ⟨a, ws, rfl, hl, hH, k⟩ := h
    obtain ⟨v0, rfl⟩ := ws_1 hl
    refine ⟨_, pss_one (ps_xset (pv 0) (pv 1)), ?_⟩
    refine ⟨_, rfl, _, rfl, a, C, f, _, _, _, _, rfl, T, no0, .inl ⟨hH, fun dx nd na => ?_⟩⟩
    have keep : ∀ u : HO, ∀ b o, b ≠ a → H b = some o → (upd (upd H dx u) a (exo a C (some dx))) b = some o := fun u b o hb e => (upd_ne hb).trans ((upd_ne (ne_of_none e nd)).trans e)
    exact k _ (keep _) (.inr ⟨dx, by simp, upd_same, (upd_ne na).trans upd_same⟩)
abbrev si2 : Stmt := inClass (topS 4) 0
theorem sci2 : FnScope ["self", "position"] ["self", "position"] (defScope si2) := ⟨rfl, rfl, rfl, by decide +kernel, rfl, by decide +kernel, by decide +kernel⟩
theorem oki2 (F : Fun K "__init__" "InvalidOrder.__init__" si2 f fd) (T : Xk K C f B newId initId bmB) (no0 : PySem.W.findIn K (.ref C) "position" = some none) : FnOk P w K mg base CX0 1 f fd ["self", "position"] (spXI C ["position"]) := by
  have sc := sci2
  refine F.ok sc (fun vs H Q E h => ?_) (fun cdv A outer s H vs Q E hr h => ?_)
  · obtain ⟨a, ws, rfl, hl, _⟩ := h
    exact congrArg Nat.succ hl
  · obtain ⟨a, ws, rfl, hl, hH, k⟩ := h
    obtain ⟨v0, rfl⟩ := ws_1 hl
    refine ⟨_, pss_one (ps_xset (pv 0) (pv 1)), ?_⟩
    refine ⟨_, rfl, _, rfl, a, C, f, _, _, _, _, rfl, T, no0, .inl ⟨hH, fun dx nd na => ?_⟩⟩
    have keep : ∀ u : HO, ∀ b o, b ≠ a → H b = some o → (upd (upd H dx u) a (exo a C (some dx))) b = some o := fun u b o hb e => (upd_ne hb).trans ((upd_ne (ne_of_none e nd)).trans e)
    exact k _ (keep _) (.inr ⟨dx, by simp, upd_same, (upd_ne na).trans upd_same⟩)
abbrev si3 : Stmt := inClass (topS 5) 0
theorem sci3 : FnScope ["self", "value"] ["self", "value"] (defScope si3) := ⟨rfl, rfl, rfl, by decide +kernel, rfl, by decide +kernel, by decide +kernel⟩
theorem oki3 (F : Fun K "__init__" "InvalidCount.__init__" si3 f fd) (T : Xk K C f B newId initId bmB) (no0 : PySem.W.findIn K (.ref C) "value" = some none) : FnOk P w K mg base CX0 1 f fd ["self", "value"] (spXI C ["value"]) := by
  have sc := sci3
  refine F.ok sc (fun vs H Q E h => ?_) (fun cdv A outer s H vs Q E hr h => ?_)
  · obtain ⟨a, ws, rfl, hl, _⟩ := h
    exact congrArg Nat.succ hl
  · obtain ⟨a, ws, rfl, hl, hH, k⟩ := h
    obtain ⟨v0, rfl⟩ := ws_1 hl
    refine ⟨_, pss_one (ps_xset (pv 0) (pv 1)), ?_⟩
    refine ⟨_, rfl, _, rfl, a, C, f, _, _, _, _, rfl, T, no0, .inl ⟨hH, fun dx nd na => ?_⟩⟩
    have keep : ∀ u : HO, ∀ b o, b ≠ a → H b = some o → (upd (upd H dx u) a (exo a C (some dx))) b = some o := fun u b o hb e => (upd_ne hb).trans ((upd_ne (ne_of_none e nd)).trans e)
    exact k _ (keep _) (.inr ⟨dx, by simp, upd_same, (upd_ne na).trans upd_same⟩)
abbrev si4 : Stmt := inClass (topS 6) 0
theorem sci4 : FnScope ["self", "value"] ["self", "value"] (defScope si4) := ⟨rfl, rfl, rfl, by decide +kernel, rfl, by decide +kernel, by decide +kernel⟩
theorem oki4 (F : Fun K "__init__" "InvalidName.__init__" si4 f fd) (T : Xk K C f B newId initId bmB) (no0 : PySem.W.findIn K (.ref C) "value" = some none) : FnOk P w K mg base CX0 1 f fd ["self", "value"] (spXI C ["value"]) := by
  have sc := sci4
  refine F.ok sc (fun vs H Q E h => ?_) (fun cdv A outer s H vs Q E hr h => ?_)
  · obtain ⟨a, ws, rfl, hl, _⟩ := h
    exact congrArg Nat.succ hl
  · obtain ⟨a, ws, rfl, hl, hH, k⟩ := h
    obtain ⟨v0, rfl⟩ := ws_1 hl
    refine ⟨_, pss_one (ps_xset (pv 0) (pv 1)), ?_⟩
    refine ⟨_, rfl, _, rfl, a, C, f, _, _, _, _, rfl, T, no0, .inl ⟨hH, fun dx nd na => ?_⟩⟩
    have keep : ∀ u : HO, ∀ b o, b ≠ a → H b = some o → (upd (upd H dx u) a (exo a C (some dx))) b = some o := fun u b o hb e => (upd_ne hb).trans ((upd_ne (ne_of_none e nd)).trans e)
    exact k _ (keep _) (.inr ⟨dx, by simp, upd_same, (upd_ne na).trans upd_same⟩)
abbrev si5 : Stmt := inClass (topS 7) 0
theorem sci5 : FnScope ["self", "position"] ["self", "position"] (defScope si5) := ⟨rfl, rfl, rfl, by decide +kernel, rfl, by decide +kernel, by decide +kernel⟩
theorem oki5 (F : Fun K "__init__" "InvalidColumns.__init__" si5 f fd) (T : Xk K C f B newId initId bmB) (no0 : PySem.W.findIn K (.ref C) "position" = some none) : FnOk P w K mg base CX0 1 f fd ["self", "position"] (spXI C ["position"]) := by
  have sc := sci5
  refine F.ok sc (fun vs H Q E h => ?_) (fun cdv A outer s H vs Q E hr h => ?_)
  · obtain ⟨a, ws, rfl, hl, _⟩ := h
    exact congrArg Nat.succ hl
  · obtain ⟨a, ws, rfl, hl, hH, k⟩ := h
    obtain ⟨v0, rfl⟩ := ws_1 hl
    refine ⟨_, pss_one (ps_xset (pv 0) (pv 1)), ?_⟩
    refine ⟨_, rfl, _, rfl, a, C, f, _, _, _, _, rfl, T, no0, .inl ⟨hH, fun dx nd na => ?_⟩⟩
    have keep : ∀ u : HO, ∀ b o, b ≠ a → H b = some o → (upd (upd H dx u) a (exo a C (some dx))) b = some o := fun u b o hb e => (upd_ne hb).trans ((upd_ne (ne_of_none e nd)).trans e)
    exact k _ (keep _) (.inr ⟨dx, by simp, upd_same, (upd_ne na).trans upd_same⟩)
abbrev si6 : Stmt := inClass (topS 8) 0
theorem sci6 : FnScope ["self", "position"] ["self", "position"] (defScope si6) := ⟨rfl, rfl, rfl, by decide +kernel, rfl, by decide +kernel, by decide +kernel⟩
theorem oki6 (F : Fun K "__init__" "InvalidRule.__init__" si6 f fd) (T : Xk K C f B newId initId bmB) (no0 : PySem.W.findIn K (.ref C) "position" = some none) : FnOk P w K mg base CX0 1 f fd ["self", "position"] (spXI C ["position"]) := by
  have sc := sci6
  refine F.ok sc (fun vs H Q E h => ?_) (fun cdv A outer s H vs Q E hr h => ?_)
  · obtain ⟨a, ws, rfl, hl, _⟩ := h
    exact congrArg Nat.succ hl
  · obtain ⟨a, ws, rfl, hl, hH, k⟩ := h
    obtain ⟨v0, rfl⟩ := ws_1 hl
    refine ⟨_, pss_one (ps_xset (pv 0) (pv 1)), ?_⟩
    refine ⟨_, rfl, _, rfl, a, C, f, _, _, _, _, rfl, T, no0, .inl ⟨hH, fun dx nd na => ?_⟩⟩
    have keep : ∀ u : HO, ∀ b o, b ≠ a → H b = some o → (upd (upd H dx u) a (exo a C (some dx))) b = some o := fun u b o hb e => (upd_ne hb).trans ((upd_ne (ne_of_none e nd)).trans e)
    exact k _ (keep _) (.inr ⟨dx, by simp, upd_same, (upd_ne na).trans upd_same⟩)
abbrev si7 : Stmt := inClass (topS 9) 0
theorem sci7 : FnScope ["self", "position"] ["self", "position"] (defScope si7) := ⟨rfl, rfl, rfl, by decide +kernel, rfl, by decide +kernel, by decide +kernel⟩
theorem oki7 (F : Fun K "__init__" "InvalidTable.__init__" si7 f fd) (T : Xk K C f B newId initId bmB) (no0 : PySem.W.findIn K (.ref C) "position" = some none) : FnOk P w K mg base CX0 1 f fd ["self", "position"] (spXI C ["position"]) := by
  have sc := sci7
  refine F.ok sc (fun vs H Q E h => ?_) (fun cdv A outer s H vs Q E hr h => ?_)
  · obtain ⟨a, ws, rfl, hl, _⟩ := h
    exact congrArg Nat.succ hl
  · obtain ⟨a, ws, rfl, hl, hH, k⟩ := h
    obtain ⟨v0, rfl⟩ := ws_1 hl
    refine ⟨_, pss_one (ps_xset (pv 0) (pv 1)), ?_⟩
    refine ⟨_, rfl, _, rfl, a, C, f, _, _, _, _, rfl, T, no0, .inl ⟨hH, fun dx nd na => ?_⟩⟩
    have keep : ∀ u : HO, ∀ b o, b ≠ a → H b = some o → (upd (upd H dx u) a (exo a C (some dx))) b = some o := fun u b o hb e => (upd_ne hb).trans ((upd_ne (ne_of_none e nd)).trans e)
    exact k _ (keep _) (.inr ⟨dx, by simp, upd_same, (upd_ne na).trans upd_same⟩)
abbrev si8 : Stmt := inClass (topS 10) 0
theorem sci8 : FnScope ["self", "position"] ["self", "position"] (defScope si8) := ⟨rfl, rfl, rfl, by decide +kernel, rfl, by decide +kernel, by decide +kernel⟩
theorem oki8 (F : Fun K "__init__" "InvalidRow.__init__" si8 f fd) (T : Xk K C f B newId initId bmB) (no0 : PySem.W.findIn K (.ref C) "position" = some none) : FnOk P w K mg base CX0 1 f fd ["self", "position"] (spXI C ["position"]) := by
  have sc := sci8
  refine F.ok sc (fun vs H Q E h => ?_) (fun cdv A outer s H vs Q E hr h => ?_)
  · obtain ⟨a, ws, rfl, hl, _⟩ := h
    exact congrArg Nat.succ hl
  · obtain ⟨a, ws, rfl, hl, hH, k⟩ := h
    obtain ⟨v0, rfl⟩ := ws_1 hl
    refine ⟨_, pss_one (ps_xset (pv 0) (pv 1)), ?_⟩
    refine ⟨_, rfl, _, rfl, a, C, f, _, _, _, _, rfl, T, no0, .inl ⟨hH, fun dx nd na => ?_⟩⟩
    have keep : ∀ u : HO, ∀ b o, b ≠ a → H b = some o → (upd (upd H dx u) a (exo a C (some dx))) b = some o := fun u b o hb e => (upd_ne hb).trans ((upd_ne (ne_of_none e nd)).trans e)
    exact k _ (keep _) (.inr ⟨dx, by simp, upd_same, (upd_ne na).trans upd_same⟩)
abbrev si9 : Stmt := inClass (topS 11) 0
theorem sci9 : FnScope ["self", "part", "position"] ["self", "part", "position"] (defScope si9) := ⟨rfl, rfl, rfl, by decide +kernel, rfl, by decide +kernel, by decide +kernel⟩
theorem oki9 (F : Fun K "__init__" "InvalidQuery.__init__" si9 f fd) (T : Xk K C f B newId initId bmB) (no0 : PySem.W.findIn K (.ref C) "part" = some none) (no1 : PySem.W.findIn K (.ref C) "position" = some none) : FnOk P w K mg base CX0 1 f fd ["self", "part", "position"] (spXI C ["part", "position"]) := by
  have sc := sci9
  refine F.ok sc (fun vs H Q E h => ?_) (fun cdv A outer s H vs Q E hr h => ?_)
  · obtain ⟨a, ws, rfl, hl, _⟩ := h
    exact congrArg Nat.succ hl
  · obtain ⟨a, ws, rfl, hl, hH, k⟩ := h
    obtain ⟨v0, v1, rfl⟩ := ws_2 hl
    refine ⟨_, pss_cons (ps_xset (pv 0) (pv 1)) (pss_one (ps_xset (pv 0) (pv 2))), ?_⟩
    refine ⟨_, rfl, _, rfl, a, C, f, _, _, _, _, rfl, T, no0, .inl ⟨hH, fun dx nd na => ?_⟩⟩
    have keep : ∀ u : HO, ∀ b o, b ≠ a → H b = some o → (upd (upd H dx u) a (exo a C (some dx))) b = some o := fun u b o hb e => (upd_ne hb).trans ((upd_ne (ne_of_none e nd)).trans e)
    refine ⟨_, rfl, _, rfl, a, C, f, _, _, _, _, rfl, T, no1, .inr ⟨dx, [("part", v0)], upd_same, (upd_ne na).trans upd_same, (by show 1 ≤ 900; decide), ?_⟩⟩
    refine k _ (fun b o hb e => ?_) (.inr ⟨dx, by simp, (upd_ne (Ne.symm na)).trans (upd_same), upd_same⟩)
    have nx : b ≠ dx := ne_of_none e nd
    exact (upd_ne nx).trans (keep _ b o hb e)
abbrev si10 : Stmt := inClass (topS 12) 0
theorem sci10 : FnScope ["self", "path"] ["self", "path"] (defScope si10) := ⟨rfl, rfl, rfl, by decide +kernel, rfl, by decide +kernel, by decide +kernel⟩
theorem oki10 (F : Fun K "__init__" "InvalidPlan.__init__" si10 f fd) (T : Xk K C f B newId initId bmB) (no0 : PySem.W.findIn K (.ref C) "path" = some none) : FnOk P w K mg base CX0 1 f fd ["self", "path"] (spXI C ["path"]) := by
  have sc := sci10
  refine F.ok sc (fun vs H Q E h => ?_) (fun cdv A outer s H vs Q E hr h => ?_)
  · obtain ⟨a, ws, rfl, hl, _⟩ := h
    exact congrArg Nat.succ hl
  · obtain ⟨a, ws, rfl, hl, hH, k⟩ := h
    obtain ⟨v0, rfl⟩ := ws_1 hl
    refine ⟨_, pss_one (ps_xset (pv 0) (pv 1)), ?_⟩
    refine ⟨_, rfl, _, rfl, a, C, f, _, _, _, _, rfl, T, no0, .inl ⟨hH, fun dx nd na => ?_⟩⟩
    have keep : ∀ u : HO, ∀ b o, b ≠ a → H b = some o → (upd (upd H dx u) a (exo a C (some dx))) b = some o := fun u b o hb e => (upd_ne hb).trans ((upd_ne (ne_of_none e nd)).trans e)
    exact k _ (keep _) (.inr ⟨dx, by simp, upd_same, (upd_ne na).trans upd_same⟩)
abbrev si11 : Stmt := inClass (topS 13) 0
theorem sci11 : FnScope ["self"] ["self"] (defScope si11) := ⟨rfl, rfl, rfl, by decide +kernel, rfl, by decide +kernel, by decide +kernel⟩
theorem oki11 (F : Fun K "__init__" "InvalidQuestion.__init__" si11 f fd) (T : Xk K C f B newId initId bmB)  : FnOk P w K mg base CX0 1 f fd ["self"] (spXI C []) := by
  have sc := sci11
  refine F.ok sc (fun vs H Q E h => ?_) (fun cdv A outer s H vs Q E hr h => ?_)
  · obtain ⟨a, ws, rfl, hl, _⟩ := h
    exact congrArg Nat.succ hl
  · obtain ⟨a, ws, rfl, hl, hH, k⟩ := h
    obtain rfl := ws_0 hl
    refine ⟨_, pss_one ps_pass, ?_⟩
    exact k H (fun _ _ _ e => e) (.inl ⟨rfl, hH⟩)
abbrev si12 : Stmt := inClass (topS 14) 0
theorem sci12 : FnScope ["self", "position"] ["self", "position"] (defScope si12) := ⟨rfl, rfl, rfl, by decide +kernel, rfl, by decide +kernel, by decide +kernel⟩
theorem oki12 (F : Fun K "__init__" "InvalidOffer.__init__" si12 f fd) (T : Xk K C f B newId initId bmB) (no0 : PySem.W.findIn K (.ref C) "position" = some none) : FnOk P w K mg base CX0 1 f fd ["self", "position"] (spXI C ["position"]) := by
  have sc := sci12
  refine F.ok sc (fun vs H Q E h => ?_) (fun cdv A outer s H vs Q E hr h => ?_)
  · obtain ⟨a, ws, rfl, hl, _⟩ := h
    exact congrArg Nat.succ hl
  · obtain ⟨a, ws, rfl, hl, hH, k⟩ := h
    obtain ⟨v0, rfl⟩ := ws_1 hl
    refine ⟨_, pss_one (ps_xset (pv 0) (pv 1)), ?_⟩
    refine ⟨_, rfl, _, rfl, a, C, f, _, _, _, _, rfl, T, no0, .inl ⟨hH, fun dx nd na => ?_⟩⟩
    have keep : ∀ u : HO, ∀ b o, b ≠ a → H b = some o → (upd (upd H dx u) a (exo a C (some dx))) b = some o := fun u b o hb e => (upd_ne hb).trans ((upd_ne (ne_of_none e nd)).trans e)
    exact k _ (keep _) (.inr ⟨dx, by simp, upd_same, (upd_ne na).trans upd_same⟩)
abbrev si13 : Stmt := inClass (topS 15) 0
theorem sci13 : FnScope ["self", "position"] ["self", "position"] (defScope si13) := ⟨rfl, rfl, rfl, by decide +kernel, rfl, by decide +kernel, by decide +kernel⟩
theorem oki13 (F : Fun K "__init__" "InvalidWrite.__init__" si13 f fd) (T : Xk K C f B newId initId bmB) (no0 : PySem.W.findIn K (.ref C) "position" = some none) : FnOk P w K mg base CX0 1 f fd ["self", "position"] (spXI C ["position"]) := by
  have sc := sci13
  refine F.ok sc (fun vs H Q E h => ?_) (fun cdv A outer s H vs Q E hr h => ?_)
  · obtain ⟨a, ws, rfl, hl, _⟩ := h
    exact congrArg Nat.succ hl
  · obtain ⟨a, ws, rfl, hl, hH, k⟩ := h
    obtain ⟨v0, rfl⟩ := ws_1 hl
    refine ⟨_, pss_one (ps_xset (pv 0) (pv 1)), ?_⟩
    refine ⟨_, rfl, _, rfl, a, C, f, _, _, _, _, rfl, T, no0, .inl ⟨hH, fun dx nd na => ?_⟩⟩
    have keep : ∀ u : HO, ∀ b o, b ≠ a → H b = some o → (upd (upd H dx u) a (exo a C (some dx))) b = some o := fun u b o hb e => (upd_ne hb).trans ((upd_ne (ne_of_none e nd)).trans e)
    exact k _ (keep _) (.inr ⟨dx, by simp, upd_same, (upd_ne na).trans upd_same⟩)
abbrev si14 : Stmt := inClass (topS 16) 0
theorem sci14 : FnScope ["self", "value"] ["self", "value"] (defScope si14) := ⟨rfl, rfl, rfl, by decide +kernel, rfl, by decide +kernel, by decide +kernel⟩
theorem oki14 (F : Fun K "__init__" "InvalidText.__init__" si14 f fd) (T : Xk K C f B newId initId bmB) (no0 : PySem.W.findIn K (.ref C) "value" = some none) : FnOk P w K mg base CX0 1 f fd ["self", "value"] (spXI C ["value"]) := by
  have sc := sci14
  refine F.ok sc (fun vs H Q E h => ?_) (fun cdv A outer s H vs Q E hr h => ?_)
  · obtain ⟨a, ws, rfl, hl, _⟩ := h
    exact congrArg Nat.succ hl
  · obtain ⟨a, ws, rfl, hl, hH, k⟩ := h
    obtain ⟨v0, rfl⟩ := ws_1 hl
    refine ⟨_, pss_one (ps_xset (pv 0) (pv 1)), ?_⟩
    refine ⟨_, rfl, _, rfl, a, C, f, _, _, _, _, rfl, T, no0, .inl ⟨hH, fun dx nd na => ?_⟩⟩
    have keep : ∀ u : HO, ∀ b o, b ≠ a → H b = some o → (upd (upd H dx u) a (exo a C (some dx))) b = some o := fun u b o hb e => (upd_ne hb).trans ((upd_ne (ne_of_none e nd)).trans e)
    exact k _ (keep _) (.inr ⟨dx, by simp, upd_same, (upd_ne na).trans upd_same⟩)
abbrev si15 : Stmt := inClass (topS 17) 0
theorem sci15 : FnScope ["self", "value"] ["self", "value"] (defScope si15) := ⟨rfl, rfl, rfl, by decide +kernel, rfl, by decide +kernel, by decide +kernel⟩
theorem oki15 (F : Fun K "__init__" "InvalidToken.__init__" si15 f fd) (T : Xk K C f B newId initId bmB) (no0 : PySem.W.findIn K (.ref C) "value" = some none) : FnOk P w K mg base CX0 1 f fd ["self", "value"] (spXI C ["value"]) := by
  have sc := sci15
  refine F.ok sc (fun vs H Q E h => ?_) (fun cdv A outer s H vs Q E hr h => ?_)
  · obtain ⟨a, ws, rfl, hl, _⟩ := h
    exact congrArg Nat.succ hl
  · obtain ⟨a, ws, rfl, hl, hH, k⟩ := h
    obtain ⟨v0, rfl⟩ := ws_1 hl
    refine ⟨_, pss_one (ps_xset (pv 0) (pv 1)), ?_⟩
    refine ⟨_, rfl, _, rfl, a, C, f, _, _, _, _, rfl, T, no0, .inl ⟨hH, fun dx nd na => ?_⟩⟩
    have keep : ∀ u : HO, ∀ b o, b ≠ a → H b = some o → (upd (upd H dx u) a (exo a C (some dx))) b = some o := fun u b o hb e => (upd_ne hb).trans ((upd_ne (ne_of_none e nd)).trans e)
    exact k _ (keep _) (.inr ⟨dx, by simp, upd_same, (upd_ne na).trans upd_same⟩)
abbrev si16 : Stmt := inClass (topS 18) 0
theorem sci16 : FnScope ["self", "value"] ["self", "value"] (defScope si16) := ⟨rfl, rfl, rfl, by decide +kernel, rfl, by decide +kernel, by decide +kernel⟩
theorem oki16 (F : Fun K "__init__" "InvalidCommand.__init__" si16 f fd) (T : Xk K C f B newId initId bmB) (no0 : PySem.W.findIn K (.ref C) "value" = some none) : FnOk P w K mg base CX0 1 f fd ["self", "value"] (spXI C ["value"]) := by
  have sc := sci16
  refine F.ok sc (fun vs H Q E h => ?_) (fun cdv A outer s H vs Q E hr h => ?_)
  · obtain ⟨a, ws, rfl, hl, _⟩ := h
    exact congrArg Nat.succ hl
  · obtain ⟨a, ws, rfl, hl, hH, k⟩ := h
    obtain ⟨v0, rfl⟩ := ws_1 hl
    refine ⟨_, pss_one (ps_xset (pv 0) (pv 1)), ?_⟩
    refine ⟨_, rfl, _, rfl, a, C, f, _, _, _, _, rfl, T, no0, .inl ⟨hH, fun dx nd na => ?_⟩⟩
    have keep : ∀ u : HO, ∀ b o, b ≠ a → H b = some o → (upd (upd H dx u) a (exo a C (some dx))) b = some o := fun u b o hb e => (upd_ne hb).trans ((upd_ne (ne_of_none e nd)).trans e)
    exact k _ (keep _) (.inr ⟨dx, by simp, upd_same, (upd_ne na).trans upd_same⟩)
abbrev si17 : Stmt := inClass (topS 19) 0
theorem sci17 : FnScope ["self", "value"] ["self", "value"] (defScope si17) := ⟨rfl, rfl, rfl, by decide +kernel, rfl, by decide +kernel, by decide +kernel⟩
theorem oki17 (F : Fun K "__init__" "UnknownTable.__init__" si17 f fd) (T : Xk K C f B newId initId bmB) (no0 : PySem.W.findIn K (.ref C) "value" = some none) : FnOk P w K mg base CX0 1 f fd ["self", "value"] (spXI C ["value"]) := by
  have sc := sci17
  refine F.ok sc (fun vs H Q E h => ?_) (fun cdv A outer s H vs Q E hr h => ?_)
  · obtain ⟨a, ws, rfl, hl, _⟩ := h
    exact congrArg Nat.succ hl
  · obtain ⟨a, ws, rfl, hl, hH, k⟩ := h
    obtain ⟨v0, rfl⟩ := ws_1 hl
    refine ⟨_, pss_one (ps_xset (pv 0) (pv 1)), ?_⟩
    refine ⟨_, rfl, _, rfl, a, C, f, _, _, _, _, rfl, T, no0, .inl ⟨hH, fun dx nd na => ?_⟩⟩
    have keep : ∀ u : HO, ∀ b o, b ≠ a → H b = some o → (upd (upd H dx u) a (exo a C (some dx))) b = some o := fun u b o hb e => (upd_ne hb).trans ((upd_ne (ne_of_none e nd)).trans e)
    exact k _ (keep _) (.inr ⟨dx, by simp, upd_same, (upd_ne na).trans upd_same⟩)
abbrev si18 : Stmt := inClass (topS 20) 0
theorem sci18 : FnScope ["self", "value"] ["self", "value"] (defScope si18) := ⟨rfl, rfl, rfl, by decide +kernel, rfl, by decide +kernel, by decide +kernel⟩
theorem oki18 (F : Fun K "__init__" "UnknownPlace.__init__" si18 f fd) (T : Xk K C f B newId initId bmB) (no0 : PySem.W.findIn K (.ref C) "value" = some none) : FnOk P w K mg base CX0 1 f fd ["self", "value"] (spXI C ["value"]) := by
  have sc := sci18
  refine F.ok sc (fun vs H Q E h => ?_) (fun cdv A outer s H vs Q E hr h => ?_)
  · obtain ⟨a, ws, rfl, hl, _⟩ := h
    exact congrArg Nat.succ hl
  · obtain ⟨a, ws, rfl, hl, hH, k⟩ := h
    obtain ⟨v0, rfl⟩ := ws_1 hl
    refine ⟨_, pss_one (ps_xset (pv 0) (pv 1)), ?_⟩
    refine ⟨_, rfl, _, rfl, a, C, f, _, _, _, _, rfl, T, no0, .inl ⟨hH, fun dx nd na => ?_⟩⟩
    have keep : ∀ u : HO, ∀ b o, b ≠ a → H b = some o → (upd (upd H dx u) a (exo a C (some dx))) b = some o := fun u b o hb e => (upd_ne hb).trans ((upd_ne (ne_of_none e nd)).trans e)
    exact k _ (keep _) (.inr ⟨dx, by simp, upd_same, (upd_ne na).trans upd_same⟩)
abbrev si19 : Stmt := inClass (topS 21) 0
theorem sci19 : FnScope ["self", "value"] ["self", "value"] (defScope si19) := ⟨rfl, rfl, rfl, by decide +kernel, rfl, by decide +kernel, by decide +kernel⟩
theorem oki19 (F : Fun K "__init__" "UnknownName.__init__" si19 f fd) (T : Xk K C f B newId initId bmB) (no0 : PySem.W.findIn K (.ref C) "value" = some none) : FnOk P w K mg base CX0 1 f fd ["self", "value"] (spXI C ["value"]) := by
  have sc := sci19
  refine F.ok sc (fun vs H Q E h => ?_) (fun cdv A outer s H vs Q E hr h => ?_)
  · obtain ⟨a, ws, rfl, hl, _⟩ := h
    exact congrArg Nat.succ hl
  · obtain ⟨a, ws, rfl, hl, hH, k⟩ := h
    obtain ⟨v0, rfl⟩ := ws_1 hl
    refine ⟨_, pss_one (ps_xset (pv 0) (pv 1)), ?_⟩
    refine ⟨_, rfl, _, rfl, a, C, f, _, _, _, _, rfl, T, no0, .inl ⟨hH, fun dx nd na => ?_⟩⟩
    have keep : ∀ u : HO, ∀ b o, b ≠ a → H b = some o → (upd (upd H dx u) a (exo a C (some dx))) b = some o := fun u b o hb e => (upd_ne hb).trans ((upd_ne (ne_of_none e nd)).trans e)
    exact k _ (keep _) (.inr ⟨dx, by simp, upd_same, (upd_ne na).trans upd_same⟩)
abbrev si20 : Stmt := inClass (topS 22) 0
theorem sci20 : FnScope ["self", "value"] ["self", "value"] (defScope si20) := ⟨rfl, rfl, rfl, by decide +kernel, rfl, by decide +kernel, by decide +kernel⟩
theorem oki20 (F : Fun K "__init__" "NameTaken.__init__" si20 f fd) (T : Xk K C f B newId initId bmB) (no0 : PySem.W.findIn K (.ref C) "value" = some none) : FnOk P w K mg base CX0 1 f fd ["self", "value"] (spXI C ["value"]) := by
  have sc := sci20
  refine F.ok sc (fun vs H Q E h => ?_) (fun cdv A outer s H vs Q E hr h => ?_)
  · obtain ⟨a, ws, rfl, hl, _⟩ := h
    exact congrArg Nat.succ hl
  · obtain ⟨a, ws, rfl, hl, hH, k⟩ := h
    obtain ⟨v0, rfl⟩ := ws_1 hl
    refine ⟨_, pss_one (ps_xset (pv 0) (pv 1)), ?_⟩
    refine ⟨_, rfl, _, rfl, a, C, f, _, _, _, _, rfl, T, no0, .inl ⟨hH, fun dx nd na => ?_⟩⟩
    have keep : ∀ u : HO, ∀ b o, b ≠ a → H b = some o → (upd (upd H dx u) a (exo a C (some dx))) b = some o := fun u b o hb e => (upd_ne hb).trans ((upd_ne (ne_of_none e nd)).trans e)
    exact k _ (keep _) (.inr ⟨dx, by simp, upd_same, (upd_ne na).trans upd_same⟩)
abbrev si21 : Stmt := inClass (topS 23) 0
theorem sci21 : FnScope ["self", "table", "place", "rule"] ["self", "table", "place", "rule"] (defScope si21) := ⟨rfl, rfl, rfl, by decide +kernel, rfl, by decide +kernel, by decide +kernel⟩
theorem oki21 (F : Fun K "__init__" "RuleBroken.__init__" si21 f fd) (T : Xk K C f B newId initId bmB) (no0 : PySem.W.findIn K (.ref C) "table" = some none) (no1 : PySem.W.findIn K (.ref C) "place" = some none) (no2 : PySem.W.findIn K (.ref C) "rule" = some none) : FnOk P w K mg base CX0 1 f fd ["self", "table", "place", "rule"] (spXI C ["table", "place", "rule"]) := by
  have sc := sci21
  refine F.ok sc (fun vs H Q E h => ?_) (fun cdv A outer s H vs Q E hr h => ?_)
  · obtain ⟨a, ws, rfl, hl, _⟩ := h
    exact congrArg Nat.succ hl
  · obtain ⟨a, ws, rfl, hl, hH, k⟩ := h
    obtain ⟨v0, v1, v2, rfl⟩ := ws_3 hl
    refine ⟨_, pss_cons (ps_xset (pv 0) (pv 1)) (pss_cons (ps_xset (pv 0) (pv 2)) (pss_one (ps_xset (pv 0) (pv 3)))), ?_⟩
    refine ⟨_, rfl, _, rfl, a, C, f, _, _, _, _, rfl, T, no0, .inl ⟨hH, fun dx nd na => ?_⟩⟩
    have keep : ∀ u : HO, ∀ b o, b ≠ a → H b = some o → (upd (upd H dx u) a (exo a C (some dx))) b = some o := fun u b o hb e => (upd_ne hb).trans ((upd_ne (ne_of_none e nd)).trans e)
    refine ⟨_, rfl, _, rfl, a, C, f, _, _, _, _, rfl, T, no1, .inr ⟨dx, [("table", v0)], upd_same, (upd_ne na).trans upd_same, (by show 1 ≤ 900; decide), ?_⟩⟩
    refine ⟨_, rfl, _, rfl, a, C, f, _, _, _, _, rfl, T, no2, .inr ⟨dx, (("place", v1) :: [("table", v0)]), (upd_ne (Ne.symm na)).trans (upd_same), upd_same, (by show 2 ≤ 900; decide), ?_⟩⟩
    refine k _ (fun b o hb e => ?_) (.inr ⟨dx, by simp, (upd_ne (Ne.symm na)).trans ((upd_ne (Ne.symm na)).trans (upd_same)), upd_same⟩)
    have nx : b ≠ dx := ne_of_none e nd
    exact (upd_ne nx).trans ((upd_ne nx).trans (keep _ b o hb e))
abbrev si22 : Stmt := inClass (topS 24) 0
theorem sci22 : FnScope ["self", "table", "one", "other", "rule"] ["self", "table", "one", "other", "rule"] (defScope si22) := ⟨rfl, rfl, rfl, by decide +kernel, rfl, by decide +kernel, by decide +kernel⟩
theorem oki22 (F : Fun K "__init__" "PairBroken.__init__" si22 f fd) (T : Xk K C f B newId initId bmB) (no0 : PySem.W.findIn K (.ref C) "table" = some none) (no1 : PySem.W.findIn K (.ref C) "one" = some none) (no2 : PySem.W.findIn K (.ref C) "other" = some none) (no3 : PySem.W.findIn K (.ref C) "rule" = some none) : FnOk P w K mg base CX0 1 f fd ["self", "table", "one", "other", "rule"] (spXI C ["table", "one", "other", "rule"]) := by
  have sc := sci22
  refine F.ok sc (fun vs H Q E h => ?_) (fun cdv A outer s H vs Q E hr h => ?_)
  · obtain ⟨a, ws, rfl, hl, _⟩ := h
    exact congrArg Nat.succ hl
  · obtain ⟨a, ws, rfl, hl, hH, k⟩ := h
    obtain ⟨v0, v1, v2, v3, rfl⟩ := ws_4 hl
    refine ⟨_, pss_cons (ps_xset (pv 0) (pv 1)) (pss_cons (ps_xset (pv 0) (pv 2)) (pss_cons (ps_xset (pv 0) (pv 3)) (pss_one (ps_xset (pv 0) (pv 4))))), ?_⟩
    refine ⟨_, rfl, _, rfl, a, C, f, _, _, _, _, rfl, T, no0, .inl ⟨hH, fun dx nd na => ?_⟩⟩
    have keep : ∀ u : HO, ∀ b o, b ≠ a → H b = some o → (upd (upd H dx u) a (exo a C (some dx))) b = some o := fun u b o hb e => (upd_ne hb).trans ((upd_ne (ne_of_none e nd)).trans e)
    refine ⟨_, rfl, _, rfl, a, C, f, _, _, _, _, rfl, T, no1, .inr ⟨dx, [("table", v0)], upd_same, (upd_ne na).trans upd_same, (by show 1 ≤ 900; decide), ?_⟩⟩
    refine ⟨_, rfl, _, rfl, a, C, f, _, _, _, _, rfl, T, no2, .inr ⟨dx, (("one", v1) :: [("table", v0)]), (upd_ne (Ne.symm na)).trans (upd_same), upd_same, (by show 2 ≤ 900; decide), ?_⟩⟩
    refine ⟨_, rfl, _, rfl, a, C, f, _, _, _, _, rfl, T, no3, .inr ⟨dx, (("other", v2) :: (("one", v1) :: [("table", v0)])), (upd_ne (Ne.symm na)).trans ((upd_ne (Ne.symm na)).trans (upd_same)), upd_same, (by show 3 ≤ 900; decide), ?_⟩⟩
    refine k _ (fun b o hb e => ?_) (.inr ⟨dx, by simp, (upd_ne (Ne.symm na)).trans ((upd_ne (Ne.symm na)).trans ((upd_ne (Ne.symm na)).trans (upd_same))), upd_same⟩)
    have nx : b ≠ dx := ne_of_none e nd
    exact (upd_ne nx).trans ((upd_ne nx).trans ((upd_ne nx).trans (keep _ b o hb e)))
abbrev si23 : Stmt := inClass (topS 25) 0
theorem sci23 : FnScope ["self"] ["self"] (defScope si23) := ⟨rfl, rfl, rfl, by decide +kernel, rfl, by decide +kernel, by decide +kernel⟩
theorem oki23 (F : Fun K "__init__" "Unlike.__init__" si23 f fd) (T : Xk K C f B newId initId bmB)  : FnOk P w K mg base CX0 1 f fd ["self"] (spXI C []) := by
  have sc := sci23
  refine F.ok sc (fun vs H Q E h => ?_) (fun cdv A outer s H vs Q E hr h => ?_)
  · obtain ⟨a, ws, rfl, hl, _⟩ := h
    exact congrArg Nat.succ hl
  · obtain ⟨a, ws, rfl, hl, hH, k⟩ := h
    obtain rfl := ws_0 hl
    refine ⟨_, pss_one ps_pass, ?_⟩
    exact k H (fun _ _ _ e => e) (.inl ⟨rfl, hH⟩)
abbrev si24 : Stmt := inClass (topS 26) 0
theorem sci24 : FnScope ["self", "path"] ["self", "path"] (defScope si24) := ⟨rfl, rfl, rfl, by decide +kernel, rfl, by decide +kernel, by decide +kernel⟩
theorem oki24 (F : Fun K "__init__" "OutOfOrder.__init__" si24 f fd) (T : Xk K C f B newId initId bmB) (no0 : PySem.W.findIn K (.ref C) "path" = some none) : FnOk P w K mg base CX0 1 f fd ["self", "path"] (spXI C ["path"]) := by
  have sc := sci24
  refine F.ok sc (fun vs H Q E h => ?_) (fun cdv A outer s H vs Q E hr h => ?_)
  · obtain ⟨a, ws, rfl, hl, _⟩ := h
    exact congrArg Nat.succ hl
  · obtain ⟨a, ws, rfl, hl, hH, k⟩ := h
    obtain ⟨v0, rfl⟩ := ws_1 hl
    refine ⟨_, pss_one (ps_xset (pv 0) (pv 1)), ?_⟩
    refine ⟨_, rfl, _, rfl, a, C, f, _, _, _, _, rfl, T, no0, .inl ⟨hH, fun dx nd na => ?_⟩⟩
    have keep : ∀ u : HO, ∀ b o, b ≠ a → H b = some o → (upd (upd H dx u) a (exo a C (some dx))) b = some o := fun u b o hb e => (upd_ne hb).trans ((upd_ne (ne_of_none e nd)).trans e)
    exact k _ (keep _) (.inr ⟨dx, by simp, upd_same, (upd_ne na).trans upd_same⟩)
abbrev si25 : Stmt := inClass (topS 27) 0
theorem sci25 : FnScope ["self", "path"] ["self", "path"] (defScope si25) := ⟨rfl, rfl, rfl, by decide +kernel, rfl, by decide +kernel, by decide +kernel⟩
theorem oki25 (F : Fun K "__init__" "Apart.__init__" si25 f fd) (T : Xk K C f B newId initId bmB) (no0 : PySem.W.findIn K (.ref C) "path" = some none) : FnOk P w K mg base CX0 1 f fd ["self", "path"] (spXI C ["path"]) := by
  have sc := sci25
  refine F.ok sc (fun vs H Q E h => ?_) (fun cdv A outer s H vs Q E hr h => ?_)
  · obtain ⟨a, ws, rfl, hl, _⟩ := h
    exact congrArg Nat.succ hl
  · obtain ⟨a, ws, rfl, hl, hH, k⟩ := h
    obtain ⟨v0, rfl⟩ := ws_1 hl
    refine ⟨_, pss_one (ps_xset (pv 0) (pv 1)), ?_⟩
    refine ⟨_, rfl, _, rfl, a, C, f, _, _, _, _, rfl, T, no0, .inl ⟨hH, fun dx nd na => ?_⟩⟩
    have keep : ∀ u : HO, ∀ b o, b ≠ a → H b = some o → (upd (upd H dx u) a (exo a C (some dx))) b = some o := fun u b o hb e => (upd_ne hb).trans ((upd_ne (ne_of_none e nd)).trans e)
    exact k _ (keep _) (.inr ⟨dx, by simp, upd_same, (upd_ne na).trans upd_same⟩)
abbrev si26 : Stmt := inClass (topS 28) 0
theorem sci26 : FnScope ["self"] ["self"] (defScope si26) := ⟨rfl, rfl, rfl, by decide +kernel, rfl, by decide +kernel, by decide +kernel⟩
theorem oki26 (F : Fun K "__init__" "NotServing.__init__" si26 f fd) (T : Xk K C f B newId initId bmB)  : FnOk P w K mg base CX0 1 f fd ["self"] (spXI C []) := by
  have sc := sci26
  refine F.ok sc (fun vs H Q E h => ?_) (fun cdv A outer s H vs Q E hr h => ?_)
  · obtain ⟨a, ws, rfl, hl, _⟩ := h
    exact congrArg Nat.succ hl
  · obtain ⟨a, ws, rfl, hl, hH, k⟩ := h
    obtain rfl := ws_0 hl
    refine ⟨_, pss_one ps_pass, ?_⟩
    exact k H (fun _ _ _ e => e) (.inl ⟨rfl, hH⟩)
abbrev si27 : Stmt := inClass (topS 29) 0
theorem sci27 : FnScope ["self"] ["self"] (defScope si27) := ⟨rfl, rfl, rfl, by decide +kernel, rfl, by decide +kernel, by decide +kernel⟩
theorem oki27 (F : Fun K "__init__" "InUse.__init__" si27 f fd) (T : Xk K C f B newId initId bmB)  : FnOk P w K mg base CX0 1 f fd ["self"] (spXI C []) := by
  have sc := sci27
  refine F.ok sc (fun vs H Q E h => ?_) (fun cdv A outer s H vs Q E hr h => ?_)
  · obtain ⟨a, ws, rfl, hl, _⟩ := h
    exact congrArg Nat.succ hl
  · obtain ⟨a, ws, rfl, hl, hH, k⟩ := h
    obtain rfl := ws_0 hl
    refine ⟨_, pss_one ps_pass, ?_⟩
    exact k H (fun _ _ _ e => e) (.inl ⟨rfl, hH⟩)
abbrev si28 : Stmt := inClass (topS 30) 0
theorem sci28 : FnScope ["self", "kind", "limit"] ["self", "kind", "limit"] (defScope si28) := ⟨rfl, rfl, rfl, by decide +kernel, rfl, by decide +kernel, by decide +kernel⟩
theorem oki28 (F : Fun K "__init__" "TooMany.__init__" si28 f fd) (T : Xk K C f B newId initId bmB) (no0 : PySem.W.findIn K (.ref C) "kind" = some none) (no1 : PySem.W.findIn K (.ref C) "limit" = some none) : FnOk P w K mg base CX0 1 f fd ["self", "kind", "limit"] (spXI C ["kind", "limit"]) := by
  have sc := sci28
  refine F.ok sc (fun vs H Q E h => ?_) (fun cdv A outer s H vs Q E hr h => ?_)
  · obtain ⟨a, ws, rfl, hl, _⟩ := h
    exact congrArg Nat.succ hl
  · obtain ⟨a, ws, rfl, hl, hH, k⟩ := h
    obtain ⟨v0, v1, rfl⟩ := ws_2 hl
    refine ⟨_, pss_cons (ps_xset (pv 0) (pv 1)) (pss_one (ps_xset (pv 0) (pv 2))), ?_⟩
    refine ⟨_, rfl, _, rfl, a, C, f, _, _, _, _, rfl, T, no0, .inl ⟨hH, fun dx nd na => ?_⟩⟩
    have keep : ∀ u : HO, ∀ b o, b ≠ a → H b = some o → (upd (upd H dx u) a (exo a C (some dx))) b = some o := fun u b o hb e => (upd_ne hb).trans ((upd_ne (ne_of_none e nd)).trans e)
    refine ⟨_, rfl, _, rfl, a, C, f, _, _, _, _, rfl, T, no1, .inr ⟨dx, [("kind", v0)], upd_same, (upd_ne na).trans upd_same, (by show 1 ≤ 900; decide), ?_⟩⟩
    refine k _ (fun b o hb e => ?_) (.inr ⟨dx, by simp, (upd_ne (Ne.symm na)).trans (upd_same), upd_same⟩)
    have nx : b ≠ dx := ne_of_none e nd
    exact (upd_ne nx).trans (keep _ b o hb e)
end
end K11

set_option Elab.async false
set_option linter.all false
set_option maxRecDepth 100000
set_option maxHeartbeats 8000000
namespace K11
open PySem PySem.Spec L2 PSG
open PyProof.Rows (IntsAre AllBare)
abbrev s__law_by_position : Stmt := topS 36
theorem sc__law_by_position : FnScope ["_law_a", "_law_b", "_law_c", "_law_d", "_law_made"] ["_law_a", "_law_b", "_law_c", "_law_d"] (defScope s__law_by_position) := ⟨rfl, rfl, rfl, by decide +kernel, rfl, by decide +kernel, by decide +kernel⟩
abbrev s__law_by_name : Stmt := topS 37
theorem sc__law_by_name : FnScope ["_law_a", "_law_b", "_law_c", "_law_d", "_law_made"] ["_law_a", "_law_b", "_law_c", "_law_d"] (defScope s__law_by_name) := ⟨rfl, rfl, rfl, by decide +kernel, rfl, by decide +kernel, by decide +kernel⟩

/-- what stands of the classes: C their places, in the text's order, D that of PairError -/
structure Laws (P : Program) (w : World) (K : PySem.W.Frag) (mg : Str → Option Value) (base : Heap) (C : Nat → Addr) (D : Addr) : Prop where
  e0 : Ex P w K mg base "InvalidValue" (C 0) ["value"]
  e1 : Ex P w K mg base "InvalidVector" (C 1) ["value"]
  e2 : Ex P w K mg base "InvalidOrder" (C 2) ["position"]
  e3 : Ex P w K mg base "InvalidCount" (C 3) ["value"]
  e4 : Ex P w K mg base "InvalidName" (C 4) ["value"]
  e5 : Ex P w K mg base "InvalidColumns" (C 5) ["position"]
  e6 : Ex P w K mg base "InvalidRule" (C 6) ["position"]
  e7 : Ex P w K mg base "InvalidTable" (C 7) ["position"]
  e8 : Ex P w K mg base "InvalidRow" (C 8) ["position"]
  e9 : Ex P w K mg base "InvalidQuery" (C 9) ["part", "position"]
  e10 : Ex P w K mg base "InvalidPlan" (C 10) ["path"]
  e11 : Ex P w K mg base "InvalidQuestion" (C 11) []
  e12 : Ex P w K mg base "InvalidOffer" (C 12) ["position"]
  e13 : Ex P w K mg base "InvalidWrite" (C 13) ["position"]
  e14 : Ex P w K mg base "InvalidText" (C 14) ["value"]
  e15 : Ex P w K mg base "InvalidToken" (C 15) ["value"]
  e16 : Ex P w K mg base "InvalidCommand" (C 16) ["value"]
  e17 : Ex P w K mg base "UnknownTable" (C 17) ["value"]
  e18 : Ex P w K mg base "UnknownPlace" (C 18) ["value"]
  e19 : Ex P w K mg base "UnknownName" (C 19) ["value"]
  e20 : Ex P w K mg base "NameTaken" (C 20) ["value"]
  e21 : Ex P w K mg base "RuleBroken" (C 21) ["table", "place", "rule"]
  e22 : Ex P w K mg base "PairBroken" (C 22) ["table", "one", "other", "rule"]
  e23 : Ex P w K mg base "Unlike" (C 23) []
  e24 : Ex P w K mg base "OutOfOrder" (C 24) ["path"]
  e25 : Ex P w K mg base "Apart" (C 25) ["path"]
  e26 : Ex P w K mg base "NotServing" (C 26) []
  e27 : Ex P w K mg base "InUse" (C 27) []
  e28 : Ex P w K mg base "TooMany" (C 28) ["kind", "limit"]
  pair : mg "PairError" = some (.ref D)
  x : ∀ i, i < 29 → PySem.W.XcC K (C i)
  no : ∀ i, i < 29 → ∀ f, f ∈ fns.getD i [] → PySem.W.findIn K (.ref (C i)) f = some none
  kit : ∀ i j, i < 29 → j < 29 → PySem.W.kitOne K (.ref (C i)) (.ref (C j)) = some (decide (i = j))
  kp : ∀ i, i < 29 → PySem.W.kitOne K (.ref (C i)) (.ref D) = some (decide (i < 17))
  kv : ∀ i, i < 29 → PySem.W.kitOne K (.ref (C i)) (.type "ValueError") = some (decide (i < 17))
  kl : ∀ i, i < 29 → PySem.W.kitOne K (.ref (C i)) (.type "LookupError") = some (!decide (i < 17) && decide (i < 20))
  kr : ∀ i, i < 29 → PySem.W.kitOne K (.ref (C i)) (.type "RuntimeError") = some (decide (20 ≤ i) && decide (i < 28))
  ka : ∀ i, i < 29 → PySem.W.kitOne K (.ref (C i)) (.type "ArithmeticError") = some (decide (i = 28))
/-- the list es has one exception of each class, with the arguments ws -/
def ExAll (H : Hp) (C : Nat → Addr) (ws es : List V) : Prop := es.length = 29 ∧ ∀ j, j < 29 → ∃ e : Addr, es[j]? = some (.ref e) ∧ ExV H e (C j) ((fns.getD j []).zip ws).reverse
theorem ExAll.same {H H' : Hp} {C : Nat → Addr} {ws es : List V} (x : ExAll H C ws es) (s : Same H H') : ExAll H' C ws es := ⟨x.1, fun j hj => by
  obtain ⟨e, h1, h2⟩ := x.2 j hj
  exact ⟨e, h1, h2.same s⟩⟩
def spAll (C : Nat → Addr) : Sp := fun vs H Q _ => ∃ a b c d : V, vs = [a, b, c, d] ∧ ∀ H' l es, Same H H' → H' l = some (.lst es) → ExAll H' C [a, b, c, d] es → Q (.ref l) H'
section
variable {P : Program} {w : World} {K : PySem.W.Frag} {mg : Str → Option Value} {base : Heap}
set_option maxHeartbeats 40000000 in
theorem ok_pos {f D : Addr} {C : Nat → Addr} {fd : FuncData} (F : Fun K "_law_by_position" "_law_by_position" s__law_by_position f fd) (L : Laws P w K mg base C D) : FnOk P w K mg base CX0 3 f fd ["_law_a", "_law_b", "_law_c", "_law_d"] (spAll C) := by
  have sc := sc__law_by_position
  refine F.ok sc (fun vs H Q E h => ?_) (fun cdv A outer s H vs Q E hr h => ?_)
  · obtain ⟨a, b, c, d, rfl, _⟩ := h
    rfl
  · obtain ⟨a, b, c, d, rfl, k⟩ := h
    refine ⟨_, (pss_cons (ps_set (i := 4) sc.nd rfl (.inl rfl) (pe_lst (pa_cons (pe_ex L.e0 hr (by rfl) (pa_cons (pv 0) pa_nil)) (pa_cons (pe_ex L.e1 hr (by rfl) (pa_cons (pv 0) pa_nil)) (pa_cons (pe_ex L.e2 hr (by rfl) (pa_cons (pv 0) pa_nil)) (pa_cons (pe_ex L.e3 hr (by rfl) (pa_cons (pv 0) pa_nil)) (pa_cons (pe_ex L.e4 hr (by rfl) (pa_cons (pv 0) pa_nil)) pa_nil)))))))
      (pss_cons (ps_set (i := 4) sc.nd rfl (.inl rfl) (pe_op op_cat (pv 4) (pe_lst (pa_cons (pe_ex L.e5 hr (by rfl) (pa_cons (pv 0) pa_nil)) (pa_cons (pe_ex L.e6 hr (by rfl) (pa_cons (pv 0) pa_nil)) (pa_cons (pe_ex L.e7 hr (by rfl) (pa_cons (pv 0) pa_nil)) (pa_cons (pe_ex L.e8 hr (by rfl) (pa_cons (pv 0) pa_nil)) (pa_cons (pe_ex L.e9 hr (by rfl) (pa_cons (pv 0) (pa_cons (pv 1) pa_nil))) pa_nil))))))))
      (pss_cons (ps_set (i := 4) sc.nd rfl (.inl rfl) (pe_op op_cat (pv 4) (pe_lst (pa_cons (pe_ex L.e10 hr (by rfl) (pa_cons (pv 0) pa_nil)) (pa_cons (pe_ex0 L.e11 hr (by rfl)) (pa_cons (pe_ex L.e12 hr (by rfl) (pa_cons (pv 0) pa_nil)) (pa_cons (pe_ex L.e13 hr (by rfl) (pa_cons (pv 0) pa_nil)) (pa_cons (pe_ex L.e14 hr (by rfl) (pa_cons (pv 0) pa_nil)) pa_nil))))))))
      (pss_cons (ps_set (i := 4) sc.nd rfl (.inl rfl) (pe_op op_cat (pv 4) (pe_lst (pa_cons (pe_ex L.e15 hr (by rfl) (pa_cons (pv 0) pa_nil)) (pa_cons (pe_ex L.e16 hr (by rfl) (pa_cons (pv 0) pa_nil)) (pa_cons (pe_ex L.e17 hr (by rfl) (pa_cons (pv 0) pa_nil)) (pa_cons (pe_ex L.e18 hr (by rfl) (pa_cons (pv 0) pa_nil)) (pa_cons (pe_ex L.e19 hr (by rfl) (pa_cons (pv 0) pa_nil)) pa_nil))))))))
      (pss_cons (ps_set (i := 4) sc.nd rfl (.inl rfl) (pe_op op_cat (pv 4) (pe_lst (pa_cons (pe_ex L.e20 hr (by rfl) (pa_cons (pv 0) pa_nil)) (pa_cons (pe_ex L.e21 hr (by rfl) (pa_cons (pv 0) (pa_cons (pv 1) (pa_cons (pv 2) pa_nil)))) (pa_cons (pe_ex L.e22 hr (by rfl) (pa_cons (pv 0) (pa_cons (pv 1) (pa_cons (pv 2) (pa_cons (pv 3) pa_nil))))) (pa_cons (pe_ex0 L.e23 hr (by rfl)) (pa_cons (pe_ex L.e24 hr (by rfl) (pa_cons (pv 0) pa_nil)) pa_nil))))))))
      (pss_cons (ps_set (i := 4) sc.nd rfl (.inl rfl) (pe_op op_cat (pv 4) (pe_lst (pa_cons (pe_ex L.e25 hr (by rfl) (pa_cons (pv 0) pa_nil)) (pa_cons (pe_ex0 L.e26 hr (by rfl)) (pa_cons (pe_ex0 L.e27 hr (by rfl)) (pa_cons (pe_ex L.e28 hr (by rfl) (pa_cons (pv 0) (pa_cons (pv 1) pa_nil))) pa_nil)))))))
      (pss_one (ps_ret (pv 4))))))))), ?_⟩
    refine ⟨_, rfl, rfl, (by show 1 ≤ 1000; decide), fun x0 G0 fr0 sm0 ex0 => ?_⟩
    refine ⟨_, rfl, rfl, (by show 1 ≤ 1000; decide), fun x1 G1 fr1 sm1 ex1 => ?_⟩
    refine ⟨_, rfl, rfl, (by show 1 ≤ 1000; decide), fun x2 G2 fr2 sm2 ex2 => ?_⟩
    refine ⟨_, rfl, rfl, (by show 1 ≤ 1000; decide), fun x3 G3 fr3 sm3 ex3 => ?_⟩
    refine ⟨_, rfl, rfl, (by show 1 ≤ 1000; decide), fun x4 G4 fr4 sm4 ex4 => ?_⟩
    refine ⟨(by show 5 ≤ sizeLine; decide), fun l0 hl0 => ?_⟩
    have al0 : upd G4 l0 (.lst [.ref x0, .ref x1, .ref x2, .ref x3, .ref x4]) l0 = some (.lst [.ref x0, .ref x1, .ref x2, .ref x3, .ref x4]) := upd_same
    have sl0 : Same G4 (upd G4 l0 (.lst [.ref x0, .ref x1, .ref x2, .ref x3, .ref x4])) := same_new hl0
    generalize upd G4 l0 (.lst [.ref x0, .ref x1, .ref x2, .ref x3, .ref x4]) = D0 at al0 sl0 ⊢
    refine ⟨_, rfl, ?_⟩
    refine ⟨_, rfl, rfl, (by show 1 ≤ 1000; decide), fun x5 G5 fr5 sm5 ex5 => ?_⟩
    refine ⟨_, rfl, rfl, (by show 1 ≤ 1000; decide), fun x6 G6 fr6 sm6 ex6 => ?_⟩
    refine ⟨_, rfl, rfl, (by show 1 ≤ 1000; decide), fun x7 G7 fr7 sm7 ex7 => ?_⟩
    refine ⟨_, rfl, rfl, (by show 1 ≤ 1000; decide), fun x8 G8 fr8 sm8 ex8 => ?_⟩
    refine ⟨_, rfl, _, rfl, rfl, (by show 2 ≤ 1000; decide), fun x9 G9 fr9 sm9 ex9 => ?_⟩
    refine ⟨(by show 5 ≤ sizeLine; decide), fun l1 hl1 => ?_⟩
    have al1 : upd G9 l1 (.lst [.ref x5, .ref x6, .ref x7, .ref x8, .ref x9]) l1 = some (.lst [.ref x5, .ref x6, .ref x7, .ref x8, .ref x9]) := upd_same
    have sl1 : Same G9 (upd G9 l1 (.lst [.ref x5, .ref x6, .ref x7, .ref x8, .ref x9])) := same_new hl1
    generalize upd G9 l1 (.lst [.ref x5, .ref x6, .ref x7, .ref x8, .ref x9]) = D1 at al1 sl1 ⊢
    have old1 := (sm5.trans (sm6.trans (sm7.trans (sm8.trans (sm9.trans (sl1)))))) _ _ al0
    refine ⟨l0, l1, _, _, rfl, rfl, old1, al1, (by show 10 ≤ sizeLine; decide), fun m1 hm1 => ?_⟩
    have am1 : upd D1 m1 (.lst ([.ref x0, .ref x1, .ref x2, .ref x3, .ref x4] ++ [.ref x5, .ref x6, .ref x7, .ref x8, .ref x9])) m1 = some (.lst [.ref x0, .ref x1, .ref x2, .ref x3, .ref x4, .ref x5, .ref x6, .ref x7, .ref x8, .ref x9]) := upd_same
    have sm_1 : Same D1 (upd D1 m1 (.lst ([.ref x0, .ref x1, .ref x2, .ref x3, .ref x4] ++ [.ref x5, .ref x6, .ref x7, .ref x8, .ref x9]))) := same_new hm1
    generalize upd D1 m1 (.lst ([.ref x0, .ref x1, .ref x2, .ref x3, .ref x4] ++ [.ref x5, .ref x6, .ref x7, .ref x8, .ref x9])) = M1 at am1 sm_1 ⊢
    refine ⟨_, rfl, ?_⟩
    refine ⟨_, rfl, rfl, (by show 1 ≤ 1000; decide), fun x10 G10 fr10 sm10 ex10 => ?_⟩
    refine ⟨rfl, (by show 0 ≤ 1000; decide), fun x11 G11 fr11 sm11 ex11 => ?_⟩
    refine ⟨_, rfl, rfl, (by show 1 ≤ 1000; decide), fun x12 G12 fr12 sm12 ex12 => ?_⟩
    refine ⟨_, rfl, rfl, (by show 1 ≤ 1000; decide), fun x13 G13 fr13 sm13 ex13 => ?_⟩
    refine ⟨_, rfl, rfl, (by show 1 ≤ 1000; decide), fun x14 G14 fr14 sm14 ex14 => ?_⟩
    refine ⟨(by show 5 ≤ sizeLine; decide), fun l2 hl2 => ?_⟩
    have al2 : upd G14 l2 (.lst [.ref x10, .ref x11, .ref x12, .ref x13, .ref x14]) l2 = some (.lst [.ref x10, .ref x11, .ref x12, .ref x13, .ref x14]) := upd_same
    have sl2 : Same G14 (upd G14 l2 (.lst [.ref x10, .ref x11, .ref x12, .ref x13, .ref x14])) := same_new hl2
    generalize upd G14 l2 (.lst [.ref x10, .ref x11, .ref x12, .ref x13, .ref x14]) = D2 at al2 sl2 ⊢
    have old2 := (sm10.trans (sm11.trans (sm12.trans (sm13.trans (sm14.trans (sl2)))))) _ _ am1
    refine ⟨m1, l2, _, _, rfl, rfl, old2, al2, (by show 15 ≤ sizeLine; decide), fun m2 hm2 => ?_⟩
    have am2 : upd D2 m2 (.lst ([.ref x0, .ref x1, .ref x2, .ref x3, .ref x4, .ref x5, .ref x6, .ref x7, .ref x8, .ref x9] ++ [.ref x10, .ref x11, .ref x12, .ref x13, .ref x14])) m2 = some (.lst [.ref x0, .ref x1, .ref x2, .ref x3, .ref x4, .ref x5, .ref x6, .ref x7, .ref x8, .ref x9, .ref x10, .ref x11, .ref x12, .ref x13, .ref x14]) := upd_same
    have sm_2 : Same D2 (upd D2 m2 (.lst ([.ref x0, .ref x1, .ref x2, .ref x3, .ref x4, .ref x5, .ref x6, .ref x7, .ref x8, .ref x9] ++ [.ref x10, .ref x11, .ref x12, .ref x13, .ref x14]))) := same_new hm2
    generalize upd D2 m2 (.lst ([.ref x0, .ref x1, .ref x2, .ref x3, .ref x4, .ref x5, .ref x6, .ref x7, .ref x8, .ref x9] ++ [.ref x10, .ref x11, .ref x12, .ref x13, .ref x14])) = M2 at am2 sm_2 ⊢
    refine ⟨_, rfl, ?_⟩
    refine ⟨_, rfl, rfl, (by show 1 ≤ 1000; decide), fun x15 G15 fr15 sm15 ex15 => ?_⟩
    refine ⟨_, rfl, rfl, (by show 1 ≤ 1000; decide), fun x16 G16 fr16 sm16 ex16 => ?_⟩
    refine ⟨_, rfl, rfl, (by show 1 ≤ 1000; decide), fun x17 G17 fr17 sm17 ex17 => ?_⟩
    refine ⟨_, rfl, rfl, (by show 1 ≤ 1000; decide), fun x18 G18 fr18 sm18 ex18 => ?_⟩
    refine ⟨_, rfl, rfl, (by show 1 ≤ 1000; decide), fun x19 G19 fr19 sm19 ex19 => ?_⟩
    refine ⟨(by show 5 ≤ sizeLine; decide), fun l3 hl3 => ?_⟩
    have al3 : upd G19 l3 (.lst [.ref x15, .ref x16, .ref x17, .ref x18, .ref x19]) l3 = some (.lst [.ref x15, .ref x16, .ref x17, .ref x18, .ref x19]) := upd_same
    have sl3 : Same G19 (upd G19 l3 (.lst [.ref x15, .ref x16, .ref x17, .ref x18, .ref x19])) := same_new hl3
    generalize upd G19 l3 (.lst [.ref x15, .ref x16, .ref x17, .ref x18, .ref x19]) = D3 at al3 sl3 ⊢
    have old3 := (sm15.trans (sm16.trans (sm17.trans (sm18.trans (sm19.trans (sl3)))))) _ _ am2
    refine ⟨m2, l3, _, _, rfl, rfl, old3, al3, (by show 20 ≤ sizeLine; decide), fun m3 hm3 => ?_⟩
    have am3 : upd D3 m3 (.lst ([.ref x0, .ref x1, .ref x2, .ref x3, .ref x4, .ref x5, .ref x6, .ref x7, .ref x8, .ref x9, .ref x10, .ref x11, .ref x12, .ref x13, .ref x14] ++ [.ref x15, .ref x16, .ref x17, .ref x18, .ref x19])) m3 = some (.lst [.ref x0, .ref x1, .ref x2, .ref x3, .ref x4, .ref x5, .ref x6, .ref x7, .ref x8, .ref x9, .ref x10, .ref x11, .ref x12, .ref x13, .ref x14, .ref x15, .ref x16, .ref x17, .ref x18, .ref x19]) := upd_same
    have sm_3 : Same D3 (upd D3 m3 (.lst ([.ref x0, .ref x1, .ref x2, .ref x3, .ref x4, .ref x5, .ref x6, .ref x7, .ref x8, .ref x9, .ref x10, .ref x11, .ref x12, .ref x13, .ref x14] ++ [.ref x15, .ref x16, .ref x17, .ref x18, .ref x19]))) := same_new hm3
    generalize upd D3 m3 (.lst ([.ref x0, .ref x1, .ref x2, .ref x3, .ref x4, .ref x5, .ref x6, .ref x7, .ref x8, .ref x9, .ref x10, .ref x11, .ref x12, .ref x13, .ref x14] ++ [.ref x15, .ref x16, .ref x17, .ref x18, .ref x19])) = M3 at am3 sm_3 ⊢
    refine ⟨_, rfl, ?_⟩
    refine ⟨_, rfl, rfl, (by show 1 ≤ 1000; decide), fun x20 G20 fr20 sm20 ex20 => ?_⟩
    refine ⟨_, rfl, _, rfl, _, rfl, rfl, (by show 3 ≤ 1000; decide), fun x21 G21 fr21 sm21 ex21 => ?_⟩
    refine ⟨_, rfl, _, rfl, _, rfl, _, rfl, rfl, (by show 4 ≤ 1000; decide), fun x22 G22 fr22 sm22 ex22 => ?_⟩
    refine ⟨rfl, (by show 0 ≤ 1000; decide), fun x23 G23 fr23 sm23 ex23 => ?_⟩
    refine ⟨_, rfl, rfl, (by show 1 ≤ 1000; decide), fun x24 G24 fr24 sm24 ex24 => ?_⟩
    refine ⟨(by show 5 ≤ sizeLine; decide), fun l4 hl4 => ?_⟩
    have al4 : upd G24 l4 (.lst [.ref x20, .ref x21, .ref x22, .ref x23, .ref x24]) l4 = some (.lst [.ref x20, .ref x21, .ref x22, .ref x23, .ref x24]) := upd_same
    have sl4 : Same G24 (upd G24 l4 (.lst [.ref x20, .ref x21, .ref x22, .ref x23, .ref x24])) := same_new hl4
    generalize upd G24 l4 (.lst [.ref x20, .ref x21, .ref x22, .ref x23, .ref x24]) = D4 at al4 sl4 ⊢
    have old4 := (sm20.trans (sm21.trans (sm22.trans (sm23.trans (sm24.trans (sl4)))))) _ _ am3
    refine ⟨m3, l4, _, _, rfl, rfl, old4, al4, (by show 25 ≤ sizeLine; decide), fun m4 hm4 => ?_⟩
    have am4 : upd D4 m4 (.lst ([.ref x0, .ref x1, .ref x2, .ref x3, .ref x4, .ref x5, .ref x6, .ref x7, .ref x8, .ref x9, .ref x10, .ref x11, .ref x12, .ref x13, .ref x14, .ref x15, .ref x16, .ref x17, .ref x18, .ref x19] ++ [.ref x20, .ref x21, .ref x22, .ref x23, .ref x24])) m4 = some (.lst [.ref x0, .ref x1, .ref x2, .ref x3, .ref x4, .ref x5, .ref x6, .ref x7, .ref x8, .ref x9, .ref x10, .ref x11, .ref x12, .ref x13, .ref x14, .ref x15, .ref x16, .ref x17, .ref x18, .ref x19, .ref x20, .ref x21, .ref x22, .ref x23, .ref x24]) := upd_same
    have sm_4 : Same D4 (upd D4 m4 (.lst ([.ref x0, .ref x1, .ref x2, .ref x3, .ref x4, .ref x5, .ref x6, .ref x7, .ref x8, .ref x9, .ref x10, .ref x11, .ref x12, .ref x13, .ref x14, .ref x15, .ref x16, .ref x17, .ref x18, .ref x19] ++ [.ref x20, .ref x21, .ref x22, .ref x23, .ref x24]))) := same_new hm4
    generalize upd D4 m4 (.lst ([.ref x0, .ref x1, .ref x2, .ref x3, .ref x4, .ref x5, .ref x6, .ref x7, .ref x8, .ref x9, .ref x10, .ref x11, .ref x12, .ref x13, .ref x14, .ref x15, .ref x16, .ref x17, .ref x18, .ref x19] ++ [.ref x20, .ref x21, .ref x22, .ref x23, .ref x24])) = M4 at am4 sm_4 ⊢
    refine ⟨_, rfl, ?_⟩
    refine ⟨_, rfl, rfl, (by show 1 ≤ 1000; decide), fun x25 G25 fr25 sm25 ex25 => ?_⟩
    refine ⟨rfl, (by show 0 ≤ 1000; decide), fun x26 G26 fr26 sm26 ex26 => ?_⟩
    refine ⟨rfl, (by show 0 ≤ 1000; decide), fun x27 G27 fr27 sm27 ex27 => ?_⟩
    refine ⟨_, rfl, _, rfl, rfl, (by show 2 ≤ 1000; decide), fun x28 G28 fr28 sm28 ex28 => ?_⟩
    refine ⟨(by show 4 ≤ sizeLine; decide), fun l5 hl5 => ?_⟩
    have al5 : upd G28 l5 (.lst [.ref x25, .ref x26, .ref x27, .ref x28]) l5 = some (.lst [.ref x25, .ref x26, .ref x27, .ref x28]) := upd_same
    have sl5 : Same G28 (upd G28 l5 (.lst [.ref x25, .ref x26, .ref x27, .ref x28])) := same_new hl5
    generalize upd G28 l5 (.lst [.ref x25, .ref x26, .ref x27, .ref x28]) = D5 at al5 sl5 ⊢
    have old5 := (sm25.trans (sm26.trans (sm27.trans (sm28.trans (sl5))))) _ _ am4
    refine ⟨m4, l5, _, _, rfl, rfl, old5, al5, (by show 29 ≤ sizeLine; decide), fun m5 hm5 => ?_⟩
    have am5 : upd D5 m5 (.lst ([.ref x0, .ref x1, .ref x2, .ref x3, .ref x4, .ref x5, .ref x6, .ref x7, .ref x8, .ref x9, .ref x10, .ref x11, .ref x12, .ref x13, .ref x14, .ref x15, .ref x16, .ref x17, .ref x18, .ref x19, .ref x20, .ref x21, .ref x22, .ref x23, .ref x24] ++ [.ref x25, .ref x26, .ref x27, .ref x28])) m5 = some (.lst [.ref x0, .ref x1, .ref x2, .ref x3, .ref x4, .ref x5, .ref x6, .ref x7, .ref x8, .ref x9, .ref x10, .ref x11, .ref x12, .ref x13, .ref x14, .ref x15, .ref x16, .ref x17, .ref x18, .ref x19, .ref x20, .ref x21, .ref x22, .ref x23, .ref x24, .ref x25, .ref x26, .ref x27, .ref x28]) := upd_same
    have sm_5 : Same D5 (upd D5 m5 (.lst ([.ref x0, .ref x1, .ref x2, .ref x3, .ref x4, .ref x5, .ref x6, .ref x7, .ref x8, .ref x9, .ref x10, .ref x11, .ref x12, .ref x13, .ref x14, .ref x15, .ref x16, .ref x17, .ref x18, .ref x19, .ref x20, .ref x21, .ref x22, .ref x23, .ref x24] ++ [.ref x25, .ref x26, .ref x27, .ref x28]))) := same_new hm5
    generalize upd D5 m5 (.lst ([.ref x0, .ref x1, .ref x2, .ref x3, .ref x4, .ref x5, .ref x6, .ref x7, .ref x8, .ref x9, .ref x10, .ref x11, .ref x12, .ref x13, .ref x14, .ref x15, .ref x16, .ref x17, .ref x18, .ref x19, .ref x20, .ref x21, .ref x22, .ref x23, .ref x24] ++ [.ref x25, .ref x26, .ref x27, .ref x28])) = M5 at am5 sm_5 ⊢
    refine ⟨_, rfl, ?_⟩
    have z40 : Same M5 M5 := Same.refl _
    have z39 := sm_5.trans z40
    have z38 := sl5.trans z39
    have z37 := sm28.trans z38
    have z36 := sm27.trans z37
    have z35 := sm26.trans z36
    have z34 := sm25.trans z35
    have z33 := sm_4.trans z34
    have z32 := sl4.trans z33
    have z31 := sm24.trans z32
    have z30 := sm23.trans z31
    have z29 := sm22.trans z30
    have z28 := sm21.trans z29
    have z27 := sm20.trans z28
    have z26 := sm_3.trans z27
    have z25 := sl3.trans z26
    have z24 := sm19.trans z25
    have z23 := sm18.trans z24
    have z22 := sm17.trans z23
    have z21 := sm16.trans z22
    have z20 := sm15.trans z21
    have z19 := sm_2.trans z20
    have z18 := sl2.trans z19
    have z17 := sm14.trans z18
    have z16 := sm13.trans z17
    have z15 := sm12.trans z16
    have z14 := sm11.trans z15
    have z13 := sm10.trans z14
    have z12 := sm_1.trans z13
    have z11 := sl1.trans z12
    have z10 := sm9.trans z11
    have z9 := sm8.trans z10
    have z8 := sm7.trans z9
    have z7 := sm6.trans z8
    have z6 := sm5.trans z7
    have z5 := sl0.trans z6
    have z4 := sm4.trans z5
    have z3 := sm3.trans z4
    have z2 := sm2.trans z3
    have z1 := sm1.trans z2
    have z0 := sm0.trans z1
    refine k _ m5 [.ref x0, .ref x1, .ref x2, .ref x3, .ref x4, .ref x5, .ref x6, .ref x7, .ref x8, .ref x9, .ref x10, .ref x11, .ref x12, .ref x13, .ref x14, .ref x15, .ref x16, .ref x17, .ref x18, .ref x19, .ref x20, .ref x21, .ref x22, .ref x23, .ref x24, .ref x25, .ref x26, .ref x27, .ref x28] z0 am5 ⟨rfl, fun j hj => ?_⟩
    match j, hj with
    | 0, _ => exact ⟨x0, rfl, ex0.same z1⟩
    | 1, _ => exact ⟨x1, rfl, ex1.same z2⟩
    | 2, _ => exact ⟨x2, rfl, ex2.same z3⟩
    | 3, _ => exact ⟨x3, rfl, ex3.same z4⟩
    | 4, _ => exact ⟨x4, rfl, ex4.same z5⟩
    | 5, _ => exact ⟨x5, rfl, ex5.same z7⟩
    | 6, _ => exact ⟨x6, rfl, ex6.same z8⟩
    | 7, _ => exact ⟨x7, rfl, ex7.same z9⟩
    | 8, _ => exact ⟨x8, rfl, ex8.same z10⟩
    | 9, _ => exact ⟨x9, rfl, ex9.same z11⟩
    | 10, _ => exact ⟨x10, rfl, ex10.same z14⟩
    | 11, _ => exact ⟨x11, rfl, ex11.same z15⟩
    | 12, _ => exact ⟨x12, rfl, ex12.same z16⟩
    | 13, _ => exact ⟨x13, rfl, ex13.same z17⟩
    | 14, _ => exact ⟨x14, rfl, ex14.same z18⟩
    | 15, _ => exact ⟨x15, rfl, ex15.same z21⟩
    | 16, _ => exact ⟨x16, rfl, ex16.same z22⟩
    | 17, _ => exact ⟨x17, rfl, ex17.same z23⟩
    | 18, _ => exact ⟨x18, rfl, ex18.same z24⟩
    | 19, _ => exact ⟨x19, rfl, ex19.same z25⟩
    | 20, _ => exact ⟨x20, rfl, ex20.same z28⟩
    | 21, _ => exact ⟨x21, rfl, ex21.same z29⟩
    | 22, _ => exact ⟨x22, rfl, ex22.same z30⟩
    | 23, _ => exact ⟨x23, rfl, ex23.same z31⟩
    | 24, _ => exact ⟨x24, rfl, ex24.same z32⟩
    | 25, _ => exact ⟨x25, rfl, ex25.same z35⟩
    | 26, _ => exact ⟨x26, rfl, ex26.same z36⟩
    | 27, _ => exact ⟨x27, rfl, ex27.same z37⟩
    | 28, _ => exact ⟨x28, rfl, ex28.same z38⟩
    | j + 29, hj => omega
set_option maxHeartbeats 40000000 in
theorem ok_nam {f D : Addr} {C : Nat → Addr} {fd : FuncData} (F : Fun K "_law_by_name" "_law_by_name" s__law_by_name f fd) (L : Laws P w K mg base C D) : FnOk P w K mg base CX0 3 f fd ["_law_a", "_law_b", "_law_c", "_law_d"] (spAll C) := by
  have sc := sc__law_by_name
  refine F.ok sc (fun vs H Q E h => ?_) (fun cdv A outer s H vs Q E hr h => ?_)
  · obtain ⟨a, b, c, d, rfl, _⟩ := h
    rfl
  · obtain ⟨a, b, c, d, rfl, k⟩ := h
    refine ⟨_, (pss_cons (ps_set (i := 4) sc.nd rfl (.inl rfl) (pe_lst (pa_cons (pe_exK L.e0 hr (by rfl) (pk_cons (pv 0) pk_nil)) (pa_cons (pe_exK L.e1 hr (by rfl) (pk_cons (pv 0) pk_nil)) (pa_cons (pe_exK L.e2 hr (by rfl) (pk_cons (pv 0) pk_nil)) pa_nil)))))
      (pss_cons (ps_set (i := 4) sc.nd rfl (.inl rfl) (pe_op op_cat (pv 4) (pe_lst (pa_cons (pe_exK L.e3 hr (by rfl) (pk_cons (pv 0) pk_nil)) (pa_cons (pe_exK L.e4 hr (by rfl) (pk_cons (pv 0) pk_nil)) (pa_cons (pe_exK L.e5 hr (by rfl) (pk_cons (pv 0) pk_nil)) pa_nil))))))
      (pss_cons (ps_set (i := 4) sc.nd rfl (.inl rfl) (pe_op op_cat (pv 4) (pe_lst (pa_cons (pe_exK L.e6 hr (by rfl) (pk_cons (pv 0) pk_nil)) (pa_cons (pe_exK L.e7 hr (by rfl) (pk_cons (pv 0) pk_nil)) (pa_cons (pe_exK L.e8 hr (by rfl) (pk_cons (pv 0) pk_nil)) pa_nil))))))
      (pss_cons (ps_set (i := 4) sc.nd rfl (.inl rfl) (pe_op op_cat (pv 4) (pe_lst (pa_cons (pe_exK L.e9 hr (by rfl) (pk_cons (pv 0) (pk_cons (pv 1) pk_nil))) (pa_cons (pe_exK L.e10 hr (by rfl) (pk_cons (pv 0) pk_nil)) (pa_cons (pe_ex0 L.e11 hr (by rfl)) pa_nil))))))
      (pss_cons (ps_set (i := 4) sc.nd rfl (.inl rfl) (pe_op op_cat (pv 4) (pe_lst (pa_cons (pe_exK L.e12 hr (by rfl) (pk_cons (pv 0) pk_nil)) (pa_cons (pe_exK L.e13 hr (by rfl) (pk_cons (pv 0) pk_nil)) (pa_cons (pe_exK L.e14 hr (by rfl) (pk_cons (pv 0) pk_nil)) pa_nil))))))
      (pss_cons (ps_set (i := 4) sc.nd rfl (.inl rfl) (pe_op op_cat (pv 4) (pe_lst (pa_cons (pe_exK L.e15 hr (by rfl) (pk_cons (pv 0) pk_nil)) (pa_cons (pe_exK L.e16 hr (by rfl) (pk_cons (pv 0) pk_nil)) (pa_cons (pe_exK L.e17 hr (by rfl) (pk_cons (pv 0) pk_nil)) pa_nil))))))
      (pss_cons (ps_set (i := 4) sc.nd rfl (.inl rfl) (pe_op op_cat (pv 4) (pe_lst (pa_cons (pe_exK L.e18 hr (by rfl) (pk_cons (pv 0) pk_nil)) (pa_cons (pe_exK L.e19 hr (by rfl) (pk_cons (pv 0) pk_nil)) (pa_cons (pe_exK L.e20 hr (by rfl) (pk_cons (pv 0) pk_nil)) pa_nil))))))
      (pss_cons (ps_set (i := 4) sc.nd rfl (.inl rfl) (pe_op op_cat (pv 4) (pe_lst (pa_cons (pe_exK L.e21 hr (by rfl) (pk_cons (pv 0) (pk_cons (pv 1) (pk_cons (pv 2) pk_nil)))) (pa_cons (pe_exK L.e22 hr (by rfl) (pk_cons (pv 0) (pk_cons (pv 1) (pk_cons (pv 2) (pk_cons (pv 3) pk_nil))))) pa_nil)))))
      (pss_cons (ps_set (i := 4) sc.nd rfl (.inl rfl) (pe_op op_cat (pv 4) (pe_lst (pa_cons (pe_ex0 L.e23 hr (by rfl)) (pa_cons (pe_exK L.e24 hr (by rfl) (pk_cons (pv 0) pk_nil)) (pa_cons (pe_exK L.e25 hr (by rfl) (pk_cons (pv 0) pk_nil)) (pa_cons (pe_ex0 L.e26 hr (by rfl)) (pa_cons (pe_ex0 L.e27 hr (by rfl)) pa_nil))))))))
      (pss_cons (ps_set (i := 4) sc.nd rfl (.inl rfl) (pe_op op_cat (pv 4) (pe_lst (pa_cons (pe_exK L.e28 hr (by rfl) (pk_cons (pv 0) (pk_cons (pv 1) pk_nil))) pa_nil))))
      (pss_one (ps_ret (pv 4))))))))))))), ?_⟩
    refine ⟨_, rfl, rfl, (by show 1 ≤ 1000; decide), fun x0 G0 fr0 sm0 ex0 => ?_⟩
    refine ⟨_, rfl, rfl, (by show 1 ≤ 1000; decide), fun x1 G1 fr1 sm1 ex1 => ?_⟩
    refine ⟨_, rfl, rfl, (by show 1 ≤ 1000; decide), fun x2 G2 fr2 sm2 ex2 => ?_⟩
    refine ⟨(by show 3 ≤ sizeLine; decide), fun l0 hl0 => ?_⟩
    have al0 : upd G2 l0 (.lst [.ref x0, .ref x1, .ref x2]) l0 = some (.lst [.ref x0, .ref x1, .ref x2]) := upd_same
    have sl0 : Same G2 (upd G2 l0 (.lst [.ref x0, .ref x1, .ref x2])) := same_new hl0
    generalize upd G2 l0 (.lst [.ref x0, .ref x1, .ref x2]) = D0 at al0 sl0 ⊢
    refine ⟨_, rfl, ?_⟩
    refine ⟨_, rfl, rfl, (by show 1 ≤ 1000; decide), fun x3 G3 fr3 sm3 ex3 => ?_⟩
    refine ⟨_, rfl, rfl, (by show 1 ≤ 1000; decide), fun x4 G4 fr4 sm4 ex4 => ?_⟩
    refine ⟨_, rfl, rfl, (by show 1 ≤ 1000; decide), fun x5 G5 fr5 sm5 ex5 => ?_⟩
    refine ⟨(by show 3 ≤ sizeLine; decide), fun l1 hl1 => ?_⟩
    have al1 : upd G5 l1 (.lst [.ref x3, .ref x4, .ref x5]) l1 = some (.lst [.ref x3, .ref x4, .ref x5]) := upd_same
    have sl1 : Same G5 (upd G5 l1 (.lst [.ref x3, .ref x4, .ref x5])) := same_new hl1
    generalize upd G5 l1 (.lst [.ref x3, .ref x4, .ref x5]) = D1 at al1 sl1 ⊢
    have old1 := (sm3.trans (sm4.trans (sm5.trans (sl1)))) _ _ al0
    refine ⟨l0, l1, _, _, rfl, rfl, old1, al1, (by show 6 ≤ sizeLine; decide), fun m1 hm1 => ?_⟩
    have am1 : upd D1 m1 (.lst ([.ref x0, .ref x1, .ref x2] ++ [.ref x3, .ref x4, .ref x5])) m1 = some (.lst [.ref x0, .ref x1, .ref x2, .ref x3, .ref x4, .ref x5]) := upd_same
    have sm_1 : Same D1 (upd D1 m1 (.lst ([.ref x0, .ref x1, .ref x2] ++ [.ref x3, .ref x4, .ref x5]))) := same_new hm1
    generalize upd D1 m1 (.lst ([.ref x0, .ref x1, .ref x2] ++ [.ref x3, .ref x4, .ref x5])) = M1 at am1 sm_1 ⊢
    refine ⟨_, rfl, ?_⟩
    refine ⟨_, rfl, rfl, (by show 1 ≤ 1000; decide), fun x6 G6 fr6 sm6 ex6 => ?_⟩
    refine ⟨_, rfl, rfl, (by show 1 ≤ 1000; decide), fun x7 G7 fr7 sm7 ex7 => ?_⟩
    refine ⟨_, rfl, rfl, (by show 1 ≤ 1000; decide), fun x8 G8 fr8 sm8 ex8 => ?_⟩
    refine ⟨(by show 3 ≤ sizeLine; decide), fun l2 hl2 => ?_⟩
    have al2 : upd G8 l2 (.lst [.ref x6, .ref x7, .ref x8]) l2 = some (.lst [.ref x6, .ref x7, .ref x8]) := upd_same
    have sl2 : Same G8 (upd G8 l2 (.lst [.ref x6, .ref x7, .ref x8])) := same_new hl2
    generalize upd G8 l2 (.lst [.ref x6, .ref x7, .ref x8]) = D2 at al2 sl2 ⊢
    have old2 := (sm6.trans (sm7.trans (sm8.trans (sl2)))) _ _ am1
    refine ⟨m1, l2, _, _, rfl, rfl, old2, al2, (by show 9 ≤ sizeLine; decide), fun m2 hm2 => ?_⟩
    have am2 : upd D2 m2 (.lst ([.ref x0, .ref x1, .ref x2, .ref x3, .ref x4, .ref x5] ++ [.ref x6, .ref x7, .ref x8])) m2 = some (.lst [.ref x0, .ref x1, .ref x2, .ref x3, .ref x4, .ref x5, .ref x6, .ref x7, .ref x8]) := upd_same
    have sm_2 : Same D2 (upd D2 m2 (.lst ([.ref x0, .ref x1, .ref x2, .ref x3, .ref x4, .ref x5] ++ [.ref x6, .ref x7, .ref x8]))) := same_new hm2
    generalize upd D2 m2 (.lst ([.ref x0, .ref x1, .ref x2, .ref x3, .ref x4, .ref x5] ++ [.ref x6, .ref x7, .ref x8])) = M2 at am2 sm_2 ⊢
    refine ⟨_, rfl, ?_⟩
    refine ⟨_, rfl, _, rfl, rfl, (by show 2 ≤ 1000; decide), fun x9 G9 fr9 sm9 ex9 => ?_⟩
    refine ⟨_, rfl, rfl, (by show 1 ≤ 1000; decide), fun x10 G10 fr10 sm10 ex10 => ?_⟩
    refine ⟨rfl, (by show 0 ≤ 1000; decide), fun x11 G11 fr11 sm11 ex11 => ?_⟩
    refine ⟨(by show 3 ≤ sizeLine; decide), fun l3 hl3 => ?_⟩
    have al3 : upd G11 l3 (.lst [.ref x9, .ref x10, .ref x11]) l3 = some (.lst [.ref x9, .ref x10, .ref x11]) := upd_same
    have sl3 : Same G11 (upd G11 l3 (.lst [.ref x9, .ref x10, .ref x11])) := same_new hl3
    generalize upd G11 l3 (.lst [.ref x9, .ref x10, .ref x11]) = D3 at al3 sl3 ⊢
    have old3 := (sm9.trans (sm10.trans (sm11.trans (sl3)))) _ _ am2
    refine ⟨m2, l3, _, _, rfl, rfl, old3, al3, (by show 12 ≤ sizeLine; decide), fun m3 hm3 => ?_⟩
    have am3 : upd D3 m3 (.lst ([.ref x0, .ref x1, .ref x2, .ref x3, .ref x4, .ref x5, .ref x6, .ref x7, .ref x8] ++ [.ref x9, .ref x10, .ref x11])) m3 = some (.lst [.ref x0, .ref x1, .ref x2, .ref x3, .ref x4, .ref x5, .ref x6, .ref x7, .ref x8, .ref x9, .ref x10, .ref x11]) := upd_same
    have sm_3 : Same D3 (upd D3 m3 (.lst ([.ref x0, .ref x1, .ref x2, .ref x3, .ref x4, .ref x5, .ref x6, .ref x7, .ref x8] ++ [.ref x9, .ref x10, .ref x11]))) := same_new hm3
    generalize upd D3 m3 (.lst ([.ref x0, .ref x1, .ref x2, .ref x3, .ref x4, .ref x5, .ref x6, .ref x7, .ref x8] ++ [.ref x9, .ref x10, .ref x11])) = M3 at am3 sm_3 ⊢
    refine ⟨_, rfl, ?_⟩
    refine ⟨_, rfl, rfl, (by show 1 ≤ 1000; decide), fun x12 G12 fr12 sm12 ex12 => ?_⟩
    refine ⟨_, rfl, rfl, (by show 1 ≤ 1000; decide), fun x13 G13 fr13 sm13 ex13 => ?_⟩
    refine ⟨_, rfl, rfl, (by show 1 ≤ 1000; decide), fun x14 G14 fr14 sm14 ex14 => ?_⟩
    refine ⟨(by show 3 ≤ sizeLine; decide), fun l4 hl4 => ?_⟩
    have al4 : upd G14 l4 (.lst [.ref x12, .ref x13, .ref x14]) l4 = some (.lst [.ref x12, .ref x13, .ref x14]) := upd_same
    have sl4 : Same G14 (upd G14 l4 (.lst [.ref x12, .ref x13, .ref x14])) := same_new hl4
    generalize upd G14 l4 (.lst [.ref x12, .ref x13, .ref x14]) = D4 at al4 sl4 ⊢
    have old4 := (sm12.trans (sm13.trans (sm14.trans (sl4)))) _ _ am3
    refine ⟨m3, l4, _, _, rfl, rfl, old4, al4, (by show 15 ≤ sizeLine; decide), fun m4 hm4 => ?_⟩
    have am4 : upd D4 m4 (.lst ([.ref x0, .ref x1, .ref x2, .ref x3, .ref x4, .ref x5, .ref x6, .ref x7, .ref x8, .ref x9, .ref x10, .ref x11] ++ [.ref x12, .ref x13, .ref x14])) m4 = some (.lst [.ref x0, .ref x1, .ref x2, .ref x3, .ref x4, .ref x5, .ref x6, .ref x7, .ref x8, .ref x9, .ref x10, .ref x11, .ref x12, .ref x13, .ref x14]) := upd_same
    have sm_4 : Same D4 (upd D4 m4 (.lst ([.ref x0, .ref x1, .ref x2, .ref x3, .ref x4, .ref x5, .ref x6, .ref x7, .ref x8, .ref x9, .ref x10, .ref x11] ++ [.ref x12, .ref x13, .ref x14]))) := same_new hm4
    generalize upd D4 m4 (.lst ([.ref x0, .ref x1, .ref x2, .ref x3, .ref x4, .ref x5, .ref x6, .ref x7, .ref x8, .ref x9, .ref x10, .ref x11] ++ [.ref x12, .ref x13, .ref x14])) = M4 at am4 sm_4 ⊢
    refine ⟨_, rfl, ?_⟩
    refine ⟨_, rfl, rfl, (by show 1 ≤ 1000; decide), fun x15 G15 fr15 sm15 ex15 => ?_⟩
    refine ⟨_, rfl, rfl, (by show 1 ≤ 1000; decide), fun x16 G16 fr16 sm16 ex16 => ?_⟩
    refine ⟨_, rfl, rfl, (by show 1 ≤ 1000; decide), fun x17 G17 fr17 sm17 ex17 => ?_⟩
    refine ⟨(by show 3 ≤ sizeLine; decide), fun l5 hl5 => ?_⟩
    have al5 : upd G17 l5 (.lst [.ref x15, .ref x16, .ref x17]) l5 = some (.lst [.ref x15, .ref x16, .ref x17]) := upd_same
    have sl5 : Same G17 (upd G17 l5 (.lst [.ref x15, .ref x16, .ref x17])) := same_new hl5
    generalize upd G17 l5 (.lst [.ref x15, .ref x16, .ref x17]) = D5 at al5 sl5 ⊢
    have old5 := (sm15.trans (sm16.trans (sm17.trans (sl5)))) _ _ am4
    refine ⟨m4, l5, _, _, rfl, rfl, old5, al5, (by show 18 ≤ sizeLine; decide), fun m5 hm5 => ?_⟩
    have am5 : upd D5 m5 (.lst ([.ref x0, .ref x1, .ref x2, .ref x3, .ref x4, .ref x5, .ref x6, .ref x7, .ref x8, .ref x9, .ref x10, .ref x11, .ref x12, .ref x13, .ref x14] ++ [.ref x15, .ref x16, .ref x17])) m5 = some (.lst [.ref x0, .ref x1, .ref x2, .ref x3, .ref x4, .ref x5, .ref x6, .ref x7, .ref x8, .ref x9, .ref x10, .ref x11, .ref x12, .ref x13, .ref x14, .ref x15, .ref x16, .ref x17]) := upd_same
    have sm_5 : Same D5 (upd D5 m5 (.lst ([.ref x0, .ref x1, .ref x2, .ref x3, .ref x4, .ref x5, .ref x6, .ref x7, .ref x8, .ref x9, .ref x10, .ref x11, .ref x12, .ref x13, .ref x14] ++ [.ref x15, .ref x16, .ref x17]))) := same_new hm5
    generalize upd D5 m5 (.lst ([.ref x0, .ref x1, .ref x2, .ref x3, .ref x4, .ref x5, .ref x6, .ref x7, .ref x8, .ref x9, .ref x10, .ref x11, .ref x12, .ref x13, .ref x14] ++ [.ref x15, .ref x16, .ref x17])) = M5 at am5 sm_5 ⊢
    refine ⟨_, rfl, ?_⟩
    refine ⟨_, rfl, rfl, (by show 1 ≤ 1000; decide), fun x18 G18 fr18 sm18 ex18 => ?_⟩
    refine ⟨_, rfl, rfl, (by show 1 ≤ 1000; decide), fun x19 G19 fr19 sm19 ex19 => ?_⟩
    refine ⟨_, rfl, rfl, (by show 1 ≤ 1000; decide), fun x20 G20 fr20 sm20 ex20 => ?_⟩
    refine ⟨(by show 3 ≤ sizeLine; decide), fun l6 hl6 => ?_⟩
    have al6 : upd G20 l6 (.lst [.ref x18, .ref x19, .ref x20]) l6 = some (.lst [.ref x18, .ref x19, .ref x20]) := upd_same
    have sl6 : Same G20 (upd G20 l6 (.lst [.ref x18, .ref x19, .ref x20])) := same_new hl6
    generalize upd G20 l6 (.lst [.ref x18, .ref x19, .ref x20]) = D6 at al6 sl6 ⊢
    have old6 := (sm18.trans (sm19.trans (sm20.trans (sl6)))) _ _ am5
    refine ⟨m5, l6, _, _, rfl, rfl, old6, al6, (by show 21 ≤ sizeLine; decide), fun m6 hm6 => ?_⟩
    have am6 : upd D6 m6 (.lst ([.ref x0, .ref x1, .ref x2, .ref x3, .ref x4, .ref x5, .ref x6, .ref x7, .ref x8, .ref x9, .ref x10, .ref x11, .ref x12, .ref x13, .ref x14, .ref x15, .ref x16, .ref x17] ++ [.ref x18, .ref x19, .ref x20])) m6 = some (.lst [.ref x0, .ref x1, .ref x2, .ref x3, .ref x4, .ref x5, .ref x6, .ref x7, .ref x8, .ref x9, .ref x10, .ref x11, .ref x12, .ref x13, .ref x14, .ref x15, .ref x16, .ref x17, .ref x18, .ref x19, .ref x20]) := upd_same
    have sm_6 : Same D6 (upd D6 m6 (.lst ([.ref x0, .ref x1, .ref x2, .ref x3, .ref x4, .ref x5, .ref x6, .ref x7, .ref x8, .ref x9, .ref x10, .ref x11, .ref x12, .ref x13, .ref x14, .ref x15, .ref x16, .ref x17] ++ [.ref x18, .ref x19, .ref x20]))) := same_new hm6
    generalize upd D6 m6 (.lst ([.ref x0, .ref x1, .ref x2, .ref x3, .ref x4, .ref x5, .ref x6, .ref x7, .ref x8, .ref x9, .ref x10, .ref x11, .ref x12, .ref x13, .ref x14, .ref x15, .ref x16, .ref x17] ++ [.ref x18, .ref x19, .ref x20])) = M6 at am6 sm_6 ⊢
    refine ⟨_, rfl, ?_⟩
    refine ⟨_, rfl, _, rfl, _, rfl, rfl, (by show 3 ≤ 1000; decide), fun x21 G21 fr21 sm21 ex21 => ?_⟩
    refine ⟨_, rfl, _, rfl, _, rfl, _, rfl, rfl, (by show 4 ≤ 1000; decide), fun x22 G22 fr22 sm22 ex22 => ?_⟩
    refine ⟨(by show 2 ≤ sizeLine; decide), fun l7 hl7 => ?_⟩
    have al7 : upd G22 l7 (.lst [.ref x21, .ref x22]) l7 = some (.lst [.ref x21, .ref x22]) := upd_same
    have sl7 : Same G22 (upd G22 l7 (.lst [.ref x21, .ref x22])) := same_new hl7
    generalize upd G22 l7 (.lst [.ref x21, .ref x22]) = D7 at al7 sl7 ⊢
    have old7 := (sm21.trans (sm22.trans (sl7))) _ _ am6
    refine ⟨m6, l7, _, _, rfl, rfl, old7, al7, (by show 23 ≤ sizeLine; decide), fun m7 hm7 => ?_⟩
    have am7 : upd D7 m7 (.lst ([.ref x0, .ref x1, .ref x2, .ref x3, .ref x4, .ref x5, .ref x6, .ref x7, .ref x8, .ref x9, .ref x10, .ref x11, .ref x12, .ref x13, .ref x14, .ref x15, .ref x16, .ref x17, .ref x18, .ref x19, .ref x20] ++ [.ref x21, .ref x22])) m7 = some (.lst [.ref x0, .ref x1, .ref x2, .ref x3, .ref x4, .ref x5, .ref x6, .ref x7, .ref x8, .ref x9, .ref x10, .ref x11, .ref x12, .ref x13, .ref x14, .ref x15, .ref x16, .ref x17, .ref x18, .ref x19, .ref x20, .ref x21, .ref x22]) := upd_same
    have sm_7 : Same D7 (upd D7 m7 (.lst ([.ref x0, .ref x1, .ref x2, .ref x3, .ref x4, .ref x5, .ref x6, .ref x7, .ref x8, .ref x9, .ref x10, .ref x11, .ref x12, .ref x13, .ref x14, .ref x15, .ref x16, .ref x17, .ref x18, .ref x19, .ref x20] ++ [.ref x21, .ref x22]))) := same_new hm7
    generalize upd D7 m7 (.lst ([.ref x0, .ref x1, .ref x2, .ref x3, .ref x4, .ref x5, .ref x6, .ref x7, .ref x8, .ref x9, .ref x10, .ref x11, .ref x12, .ref x13, .ref x14, .ref x15, .ref x16, .ref x17, .ref x18, .ref x19, .ref x20] ++ [.ref x21, .ref x22])) = M7 at am7 sm_7 ⊢
    refine ⟨_, rfl, ?_⟩
    refine ⟨rfl, (by show 0 ≤ 1000; decide), fun x23 G23 fr23 sm23 ex23 => ?_⟩
    refine ⟨_, rfl, rfl, (by show 1 ≤ 1000; decide), fun x24 G24 fr24 sm24 ex24 => ?_⟩
    refine ⟨_, rfl, rfl, (by show 1 ≤ 1000; decide), fun x25 G25 fr25 sm25 ex25 => ?_⟩
    refine ⟨rfl, (by show 0 ≤ 1000; decide), fun x26 G26 fr26 sm26 ex26 => ?_⟩
    refine ⟨rfl, (by show 0 ≤ 1000; decide), fun x27 G27 fr27 sm27 ex27 => ?_⟩
    refine ⟨(by show 5 ≤ sizeLine; decide), fun l8 hl8 => ?_⟩
    have al8 : upd G27 l8 (.lst [.ref x23, .ref x24, .ref x25, .ref x26, .ref x27]) l8 = some (.lst [.ref x23, .ref x24, .ref x25, .ref x26, .ref x27]) := upd_same
    have sl8 : Same G27 (upd G27 l8 (.lst [.ref x23, .ref x24, .ref x25, .ref x26, .ref x27])) := same_new hl8
    generalize upd G27 l8 (.lst [.ref x23, .ref x24, .ref x25, .ref x26, .ref x27]) = D8 at al8 sl8 ⊢
    have old8 := (sm23.trans (sm24.trans (sm25.trans (sm26.trans (sm27.trans (sl8)))))) _ _ am7
    refine ⟨m7, l8, _, _, rfl, rfl, old8, al8, (by show 28 ≤ sizeLine; decide), fun m8 hm8 => ?_⟩
    have am8 : upd D8 m8 (.lst ([.ref x0, .ref x1, .ref x2, .ref x3, .ref x4, .ref x5, .ref x6, .ref x7, .ref x8, .ref x9, .ref x10, .ref x11, .ref x12, .ref x13, .ref x14, .ref x15, .ref x16, .ref x17, .ref x18, .ref x19, .ref x20, .ref x21, .ref x22] ++ [.ref x23, .ref x24, .ref x25, .ref x26, .ref x27])) m8 = some (.lst [.ref x0, .ref x1, .ref x2, .ref x3, .ref x4, .ref x5, .ref x6, .ref x7, .ref x8, .ref x9, .ref x10, .ref x11, .ref x12, .ref x13, .ref x14, .ref x15, .ref x16, .ref x17, .ref x18, .ref x19, .ref x20, .ref x21, .ref x22, .ref x23, .ref x24, .ref x25, .ref x26, .ref x27]) := upd_same
    have sm_8 : Same D8 (upd D8 m8 (.lst ([.ref x0, .ref x1, .ref x2, .ref x3, .ref x4, .ref x5, .ref x6, .ref x7, .ref x8, .ref x9, .ref x10, .ref x11, .ref x12, .ref x13, .ref x14, .ref x15, .ref x16, .ref x17, .ref x18, .ref x19, .ref x20, .ref x21, .ref x22] ++ [.ref x23, .ref x24, .ref x25, .ref x26, .ref x27]))) := same_new hm8
    generalize upd D8 m8 (.lst ([.ref x0, .ref x1, .ref x2, .ref x3, .ref x4, .ref x5, .ref x6, .ref x7, .ref x8, .ref x9, .ref x10, .ref x11, .ref x12, .ref x13, .ref x14, .ref x15, .ref x16, .ref x17, .ref x18, .ref x19, .ref x20, .ref x21, .ref x22] ++ [.ref x23, .ref x24, .ref x25, .ref x26, .ref x27])) = M8 at am8 sm_8 ⊢
    refine ⟨_, rfl, ?_⟩
    refine ⟨_, rfl, _, rfl, rfl, (by show 2 ≤ 1000; decide), fun x28 G28 fr28 sm28 ex28 => ?_⟩
    refine ⟨(by show 1 ≤ sizeLine; decide), fun l9 hl9 => ?_⟩
    have al9 : upd G28 l9 (.lst [.ref x28]) l9 = some (.lst [.ref x28]) := upd_same
    have sl9 : Same G28 (upd G28 l9 (.lst [.ref x28])) := same_new hl9
    generalize upd G28 l9 (.lst [.ref x28]) = D9 at al9 sl9 ⊢
    have old9 := (sm28.trans (sl9)) _ _ am8
    refine ⟨m8, l9, _, _, rfl, rfl, old9, al9, (by show 29 ≤ sizeLine; decide), fun m9 hm9 => ?_⟩
    have am9 : upd D9 m9 (.lst ([.ref x0, .ref x1, .ref x2, .ref x3, .ref x4, .ref x5, .ref x6, .ref x7, .ref x8, .ref x9, .ref x10, .ref x11, .ref x12, .ref x13, .ref x14, .ref x15, .ref x16, .ref x17, .ref x18, .ref x19, .ref x20, .ref x21, .ref x22, .ref x23, .ref x24, .ref x25, .ref x26, .ref x27] ++ [.ref x28])) m9 = some (.lst [.ref x0, .ref x1, .ref x2, .ref x3, .ref x4, .ref x5, .ref x6, .ref x7, .ref x8, .ref x9, .ref x10, .ref x11, .ref x12, .ref x13, .ref x14, .ref x15, .ref x16, .ref x17, .ref x18, .ref x19, .ref x20, .ref x21, .ref x22, .ref x23, .ref x24, .ref x25, .ref x26, .ref x27, .ref x28]) := upd_same
    have sm_9 : Same D9 (upd D9 m9 (.lst ([.ref x0, .ref x1, .ref x2, .ref x3, .ref x4, .ref x5, .ref x6, .ref x7, .ref x8, .ref x9, .ref x10, .ref x11, .ref x12, .ref x13, .ref x14, .ref x15, .ref x16, .ref x17, .ref x18, .ref x19, .ref x20, .ref x21, .ref x22, .ref x23, .ref x24, .ref x25, .ref x26, .ref x27] ++ [.ref x28]))) := same_new hm9
    generalize upd D9 m9 (.lst ([.ref x0, .ref x1, .ref x2, .ref x3, .ref x4, .ref x5, .ref x6, .ref x7, .ref x8, .ref x9, .ref x10, .ref x11, .ref x12, .ref x13, .ref x14, .ref x15, .ref x16, .ref x17, .ref x18, .ref x19, .ref x20, .ref x21, .ref x22, .ref x23, .ref x24, .ref x25, .ref x26, .ref x27] ++ [.ref x28])) = M9 at am9 sm_9 ⊢
    refine ⟨_, rfl, ?_⟩
    have z48 : Same M9 M9 := Same.refl _
    have z47 := sm_9.trans z48
    have z46 := sl9.trans z47
    have z45 := sm28.trans z46
    have z44 := sm_8.trans z45
    have z43 := sl8.trans z44
    have z42 := sm27.trans z43
    have z41 := sm26.trans z42
    have z40 := sm25.trans z41
    have z39 := sm24.trans z40
    have z38 := sm23.trans z39
    have z37 := sm_7.trans z38
    have z36 := sl7.trans z37
    have z35 := sm22.trans z36
    have z34 := sm21.trans z35
    have z33 := sm_6.trans z34
    have z32 := sl6.trans z33
    have z31 := sm20.trans z32
    have z30 := sm19.trans z31
    have z29 := sm18.trans z30
    have z28 := sm_5.trans z29
    have z27 := sl5.trans z28
    have z26 := sm17.trans z27
    have z25 := sm16.trans z26
    have z24 := sm15.trans z25
    have z23 := sm_4.trans z24
    have z22 := sl4.trans z23
    have z21 := sm14.trans z22
    have z20 := sm13.trans z21
    have z19 := sm12.trans z20
    have z18 := sm_3.trans z19
    have z17 := sl3.trans z18
    have z16 := sm11.trans z17
    have z15 := sm10.trans z16
    have z14 := sm9.trans z15
    have z13 := sm_2.trans z14
    have z12 := sl2.trans z13
    have z11 := sm8.trans z12
    have z10 := sm7.trans z11
    have z9 := sm6.trans z10
    have z8 := sm_1.trans z9
    have z7 := sl1.trans z8
    have z6 := sm5.trans z7
    have z5 := sm4.trans z6
    have z4 := sm3.trans z5
    have z3 := sl0.trans z4
    have z2 := sm2.trans z3
    have z1 := sm1.trans z2
    have z0 := sm0.trans z1
    refine k _ m9 [.ref x0, .ref x1, .ref x2, .ref x3, .ref x4, .ref x5, .ref x6, .ref x7, .ref x8, .ref x9, .ref x10, .ref x11, .ref x12, .ref x13, .ref x14, .ref x15, .ref x16, .ref x17, .ref x18, .ref x19, .ref x20, .ref x21, .ref x22, .ref x23, .ref x24, .ref x25, .ref x26, .ref x27, .ref x28] z0 am9 ⟨rfl, fun j hj => ?_⟩
    match j, hj with
    | 0, _ => exact ⟨x0, rfl, ex0.same z1⟩
    | 1, _ => exact ⟨x1, rfl, ex1.same z2⟩
    | 2, _ => exact ⟨x2, rfl, ex2.same z3⟩
    | 3, _ => exact ⟨x3, rfl, ex3.same z5⟩
    | 4, _ => exact ⟨x4, rfl, ex4.same z6⟩
    | 5, _ => exact ⟨x5, rfl, ex5.same z7⟩
    | 6, _ => exact ⟨x6, rfl, ex6.same z10⟩
    | 7, _ => exact ⟨x7, rfl, ex7.same z11⟩
    | 8, _ => exact ⟨x8, rfl, ex8.same z12⟩
    | 9, _ => exact ⟨x9, rfl, ex9.same z15⟩
    | 10, _ => exact ⟨x10, rfl, ex10.same z16⟩
    | 11, _ => exact ⟨x11, rfl, ex11.same z17⟩
    | 12, _ => exact ⟨x12, rfl, ex12.same z20⟩
    | 13, _ => exact ⟨x13, rfl, ex13.same z21⟩
    | 14, _ => exact ⟨x14, rfl, ex14.same z22⟩
    | 15, _ => exact ⟨x15, rfl, ex15.same z25⟩
    | 16, _ => exact ⟨x16, rfl, ex16.same z26⟩
    | 17, _ => exact ⟨x17, rfl, ex17.same z27⟩
    | 18, _ => exact ⟨x18, rfl, ex18.same z30⟩
    | 19, _ => exact ⟨x19, rfl, ex19.same z31⟩
    | 20, _ => exact ⟨x20, rfl, ex20.same z32⟩
    | 21, _ => exact ⟨x21, rfl, ex21.same z35⟩
    | 22, _ => exact ⟨x22, rfl, ex22.same z36⟩
    | 23, _ => exact ⟨x23, rfl, ex23.same z39⟩
    | 24, _ => exact ⟨x24, rfl, ex24.same z40⟩
    | 25, _ => exact ⟨x25, rfl, ex25.same z41⟩
    | 26, _ => exact ⟨x26, rfl, ex26.same z42⟩
    | 27, _ => exact ⟨x27, rfl, ex27.same z43⟩
    | 28, _ => exact ⟨x28, rfl, ex28.same z46⟩
    | j + 29, hj => omega
end
end K11

set_option Elab.async false
set_option linter.all false
set_option maxRecDepth 100000
set_option maxHeartbeats 8000000
namespace K11
open PySem PySem.Spec L2 PSG
open PyProof.Rows (IntsAre AllBare)
abbrev s__law_classes : Stmt := topS 38
theorem sc__law_classes : FnScope ["_law_e", "_law_made"] ["_law_e"] (defScope s__law_classes) := ⟨rfl, rfl, rfl, by decide +kernel, rfl, by decide +kernel, by decide +kernel⟩
abbrev s__law_bases : Stmt := topS 40
theorem sc__law_bases : FnScope ["_law_e", "_law_made"] ["_law_e"] (defScope s__law_bases) := ⟨rfl, rfl, rfl, by decide +kernel, rfl, by decide +kernel, by decide +kernel⟩
abbrev s__law_due_bases : Stmt := topS 41
theorem sc__law_due_bases : FnScope ["_law_at"] ["_law_at"] (defScope s__law_due_bases) := ⟨rfl, rfl, rfl, by decide +kernel, rfl, by decide +kernel, by decide +kernel⟩
abbrev s__law_fields : Stmt := topS 39
theorem sc__law_fields : FnScope ["_law_some", "_law_made"] ["_law_some"] (defScope s__law_fields) := ⟨rfl, rfl, rfl, by decide +kernel, rfl, by decide +kernel, by decide +kernel⟩
abbrev s__law_due_fields : Stmt := topS 42
theorem sc__law_due_fields : FnScope ["_law_a", "_law_b", "_law_c", "_law_d", "_law_sizes", "_law_made", "_law_size"] ["_law_a", "_law_b", "_law_c", "_law_d"] (defScope s__law_due_fields) := ⟨rfl, rfl, rfl, by decide +kernel, rfl, by decide +kernel, by decide +kernel⟩

section
variable {P : Program} {w : World} {K : PySem.W.Frag} {mg : Str → Option Value} {base : Heap}
def spClasses (C : Nat → Addr) : Sp := fun vs H Q _ => ∃ (e : Addr) (i : Nat) (fs : List (Str × V)), vs = [.ref e] ∧ i < 29 ∧ ExV H e (C i) fs ∧ ∀ H' l, Same H H' → H' l = some (.lst (((List.range 29).map fun j => decide (i = j)).map V.bl)) → Q (.ref l) H'
def spBases (C : Nat → Addr) : Sp := fun vs H Q _ => ∃ (e : Addr) (i : Nat) (fs : List (Str × V)), vs = [.ref e] ∧ i < 29 ∧ ExV H e (C i) fs ∧ ∀ H' l, Same H H' →
  H' l = some (.lst ([decide (i < 17), decide (i < 17), !decide (i < 17) && decide (i < 20), decide (20 ≤ i) && decide (i < 28), decide (i = 28)].map V.bl)) → Q (.ref l) H'
set_option maxHeartbeats 40000000 in
theorem ok_classes {f D : Addr} {C : Nat → Addr} {fd : FuncData} (F : Fun K "_law_classes" "_law_classes" s__law_classes f fd) (T : Blt mg) (L : Laws P w K mg base C D) : FnOk P w K mg base CX0 1 f fd ["_law_e"] (spClasses C) := by
  have sc := sc__law_classes
  refine F.ok sc (fun vs H Q E h => ?_) (fun cdv A outer s H vs Q E hr h => ?_)
  · obtain ⟨e, i, fs, rfl, _⟩ := h
    rfl
  · obtain ⟨e, i, fs, rfl, hi, hx, k⟩ := h
    refine ⟨_, (pss_cons (ps_set (i := 1) sc.nd rfl (.inl rfl) (pe_lst (pa_cons (pe_callB call_xis (by rfl) T.n_isinstance (by decide +kernel) (pa_cons (pv 0) (pa_cons (pe_glob (v := .ref (C 0)) (by rfl) L.e0.glob rfl) pa_nil))) (pa_cons (pe_callB call_xis (by rfl) T.n_isinstance (by decide +kernel) (pa_cons (pv 0) (pa_cons (pe_glob (v := .ref (C 1)) (by rfl) L.e1.glob rfl) pa_nil))) (pa_cons (pe_callB call_xis (by rfl) T.n_isinstance (by decide +kernel) (pa_cons (pv 0) (pa_cons (pe_glob (v := .ref (C 2)) (by rfl) L.e2.glob rfl) pa_nil))) pa_nil)))))
      (pss_cons (ps_set (i := 1) sc.nd rfl (.inl rfl) (pe_op op_cat (pv 1) (pe_lst (pa_cons (pe_callB call_xis (by rfl) T.n_isinstance (by decide +kernel) (pa_cons (pv 0) (pa_cons (pe_glob (v := .ref (C 3)) (by rfl) L.e3.glob rfl) pa_nil))) (pa_cons (pe_callB call_xis (by rfl) T.n_isinstance (by decide +kernel) (pa_cons (pv 0) (pa_cons (pe_glob (v := .ref (C 4)) (by rfl) L.e4.glob rfl) pa_nil))) (pa_cons (pe_callB call_xis (by rfl) T.n_isinstance (by decide +kernel) (pa_cons (pv 0) (pa_cons (pe_glob (v := .ref (C 5)) (by rfl) L.e5.glob rfl) pa_nil))) pa_nil))))))
      (pss_cons (ps_set (i := 1) sc.nd rfl (.inl rfl) (pe_op op_cat (pv 1) (pe_lst (pa_cons (pe_callB call_xis (by rfl) T.n_isinstance (by decide +kernel) (pa_cons (pv 0) (pa_cons (pe_glob (v := .ref (C 6)) (by rfl) L.e6.glob rfl) pa_nil))) (pa_cons (pe_callB call_xis (by rfl) T.n_isinstance (by decide +kernel) (pa_cons (pv 0) (pa_cons (pe_glob (v := .ref (C 7)) (by rfl) L.e7.glob rfl) pa_nil))) (pa_cons (pe_callB call_xis (by rfl) T.n_isinstance (by decide +kernel) (pa_cons (pv 0) (pa_cons (pe_glob (v := .ref (C 8)) (by rfl) L.e8.glob rfl) pa_nil))) pa_nil))))))
      (pss_cons (ps_set (i := 1) sc.nd rfl (.inl rfl) (pe_op op_cat (pv 1) (pe_lst (pa_cons (pe_callB call_xis (by rfl) T.n_isinstance (by decide +kernel) (pa_cons (pv 0) (pa_cons (pe_glob (v := .ref (C 9)) (by rfl) L.e9.glob rfl) pa_nil))) (pa_cons (pe_callB call_xis (by rfl) T.n_isinstance (by decide +kernel) (pa_cons (pv 0) (pa_cons (pe_glob (v := .ref (C 10)) (by rfl) L.e10.glob rfl) pa_nil))) (pa_cons (pe_callB call_xis (by rfl) T.n_isinstance (by decide +kernel) (pa_cons (pv 0) (pa_cons (pe_glob (v := .ref (C 11)) (by rfl) L.e11.glob rfl) pa_nil))) pa_nil))))))
      (pss_cons (ps_set (i := 1) sc.nd rfl (.inl rfl) (pe_op op_cat (pv 1) (pe_lst (pa_cons (pe_callB call_xis (by rfl) T.n_isinstance (by decide +kernel) (pa_cons (pv 0) (pa_cons (pe_glob (v := .ref (C 12)) (by rfl) L.e12.glob rfl) pa_nil))) (pa_cons (pe_callB call_xis (by rfl) T.n_isinstance (by decide +kernel) (pa_cons (pv 0) (pa_cons (pe_glob (v := .ref (C 13)) (by rfl) L.e13.glob rfl) pa_nil))) (pa_cons (pe_callB call_xis (by rfl) T.n_isinstance (by decide +kernel) (pa_cons (pv 0) (pa_cons (pe_glob (v := .ref (C 14)) (by rfl) L.e14.glob rfl) pa_nil))) pa_nil))))))
      (pss_cons (ps_set (i := 1) sc.nd rfl (.inl rfl) (pe_op op_cat (pv 1) (pe_lst (pa_cons (pe_callB call_xis (by rfl) T.n_isinstance (by decide +kernel) (pa_cons (pv 0) (pa_cons (pe_glob (v := .ref (C 15)) (by rfl) L.e15.glob rfl) pa_nil))) (pa_cons (pe_callB call_xis (by rfl) T.n_isinstance (by decide +kernel) (pa_cons (pv 0) (pa_cons (pe_glob (v := .ref (C 16)) (by rfl) L.e16.glob rfl) pa_nil))) (pa_cons (pe_callB call_xis (by rfl) T.n_isinstance (by decide +kernel) (pa_cons (pv 0) (pa_cons (pe_glob (v := .ref (C 17)) (by rfl) L.e17.glob rfl) pa_nil))) pa_nil))))))
      (pss_cons (ps_set (i := 1) sc.nd rfl (.inl rfl) (pe_op op_cat (pv 1) (pe_lst (pa_cons (pe_callB call_xis (by rfl) T.n_isinstance (by decide +kernel) (pa_cons (pv 0) (pa_cons (pe_glob (v := .ref (C 18)) (by rfl) L.e18.glob rfl) pa_nil))) (pa_cons (pe_callB call_xis (by rfl) T.n_isinstance (by decide +kernel) (pa_cons (pv 0) (pa_cons (pe_glob (v := .ref (C 19)) (by rfl) L.e19.glob rfl) pa_nil))) (pa_cons (pe_callB call_xis (by rfl) T.n_isinstance (by decide +kernel) (pa_cons (pv 0) (pa_cons (pe_glob (v := .ref (C 20)) (by rfl) L.e20.glob rfl) pa_nil))) pa_nil))))))
      (pss_cons (ps_set (i := 1) sc.nd rfl (.inl rfl) (pe_op op_cat (pv 1) (pe_lst (pa_cons (pe_callB call_xis (by rfl) T.n_isinstance (by decide +kernel) (pa_cons (pv 0) (pa_cons (pe_glob (v := .ref (C 21)) (by rfl) L.e21.glob rfl) pa_nil))) (pa_cons (pe_callB call_xis (by rfl) T.n_isinstance (by decide +kernel) (pa_cons (pv 0) (pa_cons (pe_glob (v := .ref (C 22)) (by rfl) L.e22.glob rfl) pa_nil))) (pa_cons (pe_callB call_xis (by rfl) T.n_isinstance (by decide +kernel) (pa_cons (pv 0) (pa_cons (pe_glob (v := .ref (C 23)) (by rfl) L.e23.glob rfl) pa_nil))) pa_nil))))))
      (pss_cons (ps_set (i := 1) sc.nd rfl (.inl rfl) (pe_op op_cat (pv 1) (pe_lst (pa_cons (pe_callB call_xis (by rfl) T.n_isinstance (by decide +kernel) (pa_cons (pv 0) (pa_cons (pe_glob (v := .ref (C 24)) (by rfl) L.e24.glob rfl) pa_nil))) (pa_cons (pe_callB call_xis (by rfl) T.n_isinstance (by decide +kernel) (pa_cons (pv 0) (pa_cons (pe_glob (v := .ref (C 25)) (by rfl) L.e25.glob rfl) pa_nil))) (pa_cons (pe_callB call_xis (by rfl) T.n_isinstance (by decide +kernel) (pa_cons (pv 0) (pa_cons (pe_glob (v := .ref (C 26)) (by rfl) L.e26.glob rfl) pa_nil))) pa_nil))))))
      (pss_cons (ps_set (i := 1) sc.nd rfl (.inl rfl) (pe_op op_cat (pv 1) (pe_lst (pa_cons (pe_callB call_xis (by rfl) T.n_isinstance (by decide +kernel) (pa_cons (pv 0) (pa_cons (pe_glob (v := .ref (C 27)) (by rfl) L.e27.glob rfl) pa_nil))) (pa_cons (pe_callB call_xis (by rfl) T.n_isinstance (by decide +kernel) (pa_cons (pv 0) (pa_cons (pe_glob (v := .ref (C 28)) (by rfl) L.e28.glob rfl) pa_nil))) pa_nil)))))
      (pss_one (ps_ret (pv 1))))))))))))), ?_⟩
    have here0 : Same H H := (Same.refl _)
    refine ⟨_, rfl, e, C i, fs, _, _, _, rfl, .own _, hx.same here0, L.x i hi, L.kit i 0 hi (by decide), ?_⟩
    refine ⟨_, rfl, e, C i, fs, _, _, _, rfl, .own _, hx.same here0, L.x i hi, L.kit i 1 hi (by decide), ?_⟩
    refine ⟨_, rfl, e, C i, fs, _, _, _, rfl, .own _, hx.same here0, L.x i hi, L.kit i 2 hi (by decide), ?_⟩
    refine ⟨(by show 3 ≤ sizeLine; decide), fun l0 hl0 => ?_⟩
    have al0 : upd H l0 (.lst [.bl (decide (i = 0)), .bl (decide (i = 1)), .bl (decide (i = 2))]) l0 = some (.lst [.bl (decide (i = 0)), .bl (decide (i = 1)), .bl (decide (i = 2))]) := upd_same
    have sl0 : Same H (upd H l0 (.lst [.bl (decide (i = 0)), .bl (decide (i = 1)), .bl (decide (i = 2))])) := same_new hl0
    generalize upd H l0 (.lst [.bl (decide (i = 0)), .bl (decide (i = 1)), .bl (decide (i = 2))]) = D0 at al0 sl0 ⊢
    have here1 : Same H D0 := sl0
    refine ⟨_, rfl, ?_⟩
    refine ⟨_, rfl, e, C i, fs, _, _, _, rfl, .own _, hx.same here1, L.x i hi, L.kit i 3 hi (by decide), ?_⟩
    refine ⟨_, rfl, e, C i, fs, _, _, _, rfl, .own _, hx.same here1, L.x i hi, L.kit i 4 hi (by decide), ?_⟩
    refine ⟨_, rfl, e, C i, fs, _, _, _, rfl, .own _, hx.same here1, L.x i hi, L.kit i 5 hi (by decide), ?_⟩
    refine ⟨(by show 3 ≤ sizeLine; decide), fun l1 hl1 => ?_⟩
    have al1 : upd D0 l1 (.lst [.bl (decide (i = 3)), .bl (decide (i = 4)), .bl (decide (i = 5))]) l1 = some (.lst [.bl (decide (i = 3)), .bl (decide (i = 4)), .bl (decide (i = 5))]) := upd_same
    have sl1 : Same D0 (upd D0 l1 (.lst [.bl (decide (i = 3)), .bl (decide (i = 4)), .bl (decide (i = 5))])) := same_new hl1
    generalize upd D0 l1 (.lst [.bl (decide (i = 3)), .bl (decide (i = 4)), .bl (decide (i = 5))]) = D1 at al1 sl1 ⊢
    have old1 := sl1 _ _ al0
    refine ⟨l0, l1, _, _, rfl, rfl, old1, al1, (by show 6 ≤ sizeLine; decide), fun m1 hm1 => ?_⟩
    have am1 : upd D1 m1 (.lst ([.bl (decide (i = 0)), .bl (decide (i = 1)), .bl (decide (i = 2))] ++ [.bl (decide (i = 3)), .bl (decide (i = 4)), .bl (decide (i = 5))])) m1 = some (.lst [.bl (decide (i = 0)), .bl (decide (i = 1)), .bl (decide (i = 2)), .bl (decide (i = 3)), .bl (decide (i = 4)), .bl (decide (i = 5))]) := upd_same
    have sm1 : Same D1 (upd D1 m1 (.lst ([.bl (decide (i = 0)), .bl (decide (i = 1)), .bl (decide (i = 2))] ++ [.bl (decide (i = 3)), .bl (decide (i = 4)), .bl (decide (i = 5))]))) := same_new hm1
    generalize upd D1 m1 (.lst ([.bl (decide (i = 0)), .bl (decide (i = 1)), .bl (decide (i = 2))] ++ [.bl (decide (i = 3)), .bl (decide (i = 4)), .bl (decide (i = 5))])) = M1 at am1 sm1 ⊢
    have here2 : Same H M1 := (sl0.trans (sl1.trans (sm1)))
    refine ⟨_, rfl, ?_⟩
    refine ⟨_, rfl, e, C i, fs, _, _, _, rfl, .own _, hx.same here2, L.x i hi, L.kit i 6 hi (by decide), ?_⟩
    refine ⟨_, rfl, e, C i, fs, _, _, _, rfl, .own _, hx.same here2, L.x i hi, L.kit i 7 hi (by decide), ?_⟩
    refine ⟨_, rfl, e, C i, fs, _, _, _, rfl, .own _, hx.same here2, L.x i hi, L.kit i 8 hi (by decide), ?_⟩
    refine ⟨(by show 3 ≤ sizeLine; decide), fun l2 hl2 => ?_⟩
    have al2 : upd M1 l2 (.lst [.bl (decide (i = 6)), .bl (decide (i = 7)), .bl (decide (i = 8))]) l2 = some (.lst [.bl (decide (i = 6)), .bl (decide (i = 7)), .bl (decide (i = 8))]) := upd_same
    have sl2 : Same M1 (upd M1 l2 (.lst [.bl (decide (i = 6)), .bl (decide (i = 7)), .bl (decide (i = 8))])) := same_new hl2
    generalize upd M1 l2 (.lst [.bl (decide (i = 6)), .bl (decide (i = 7)), .bl (decide (i = 8))]) = D2 at al2 sl2 ⊢
    have old2 := sl2 _ _ am1
    refine ⟨m1, l2, _, _, rfl, rfl, old2, al2, (by show 9 ≤ sizeLine; decide), fun m2 hm2 => ?_⟩
    have am2 : upd D2 m2 (.lst ([.bl (decide (i = 0)), .bl (decide (i = 1)), .bl (decide (i = 2)), .bl (decide (i = 3)), .bl (decide (i = 4)), .bl (decide (i = 5))] ++ [.bl (decide (i = 6)), .bl (decide (i = 7)), .bl (decide (i = 8))])) m2 = some (.lst [.bl (decide (i = 0)), .bl (decide (i = 1)), .bl (decide (i = 2)), .bl (decide (i = 3)), .bl (decide (i = 4)), .bl (decide (i = 5)), .bl (decide (i = 6)), .bl (decide (i = 7)), .bl (decide (i = 8))]) := upd_same
    have sm2 : Same D2 (upd D2 m2 (.lst ([.bl (decide (i = 0)), .bl (decide (i = 1)), .bl (decide (i = 2)), .bl (decide (i = 3)), .bl (decide (i = 4)), .bl (decide (i = 5))] ++ [.bl (decide (i = 6)), .bl (decide (i = 7)), .bl (decide (i = 8))]))) := same_new hm2
    generalize upd D2 m2 (.lst ([.bl (decide (i = 0)), .bl (decide (i = 1)), .bl (decide (i = 2)), .bl (decide (i = 3)), .bl (decide (i = 4)), .bl (decide (i = 5))] ++ [.bl (decide (i = 6)), .bl (decide (i = 7)), .bl (decide (i = 8))])) = M2 at am2 sm2 ⊢
    have here3 : Same H M2 := (sl0.trans (sl1.trans (sm1.trans (sl2.trans (sm2)))))
    refine ⟨_, rfl, ?_⟩
    refine ⟨_, rfl, e, C i, fs, _, _, _, rfl, .own _, hx.same here3, L.x i hi, L.kit i 9 hi (by decide), ?_⟩
    refine ⟨_, rfl, e, C i, fs, _, _, _, rfl, .own _, hx.same here3, L.x i hi, L.kit i 10 hi (by decide), ?_⟩
    refine ⟨_, rfl, e, C i, fs, _, _, _, rfl, .own _, hx.same here3, L.x i hi, L.kit i 11 hi (by decide), ?_⟩
    refine ⟨(by show 3 ≤ sizeLine; decide), fun l3 hl3 => ?_⟩
    have al3 : upd M2 l3 (.lst [.bl (decide (i = 9)), .bl (decide (i = 10)), .bl (decide (i = 11))]) l3 = some (.lst [.bl (decide (i = 9)), .bl (decide (i = 10)), .bl (decide (i = 11))]) := upd_same
    have sl3 : Same M2 (upd M2 l3 (.lst [.bl (decide (i = 9)), .bl (decide (i = 10)), .bl (decide (i = 11))])) := same_new hl3
    generalize upd M2 l3 (.lst [.bl (decide (i = 9)), .bl (decide (i = 10)), .bl (decide (i = 11))]) = D3 at al3 sl3 ⊢
    have old3 := sl3 _ _ am2
    refine ⟨m2, l3, _, _, rfl, rfl, old3, al3, (by show 12 ≤ sizeLine; decide), fun m3 hm3 => ?_⟩
    have am3 : upd D3 m3 (.lst ([.bl (decide (i = 0)), .bl (decide (i = 1)), .bl (decide (i = 2)), .bl (decide (i = 3)), .bl (decide (i = 4)), .bl (decide (i = 5)), .bl (decide (i = 6)), .bl (decide (i = 7)), .bl (decide (i = 8))] ++ [.bl (decide (i = 9)), .bl (decide (i = 10)), .bl (decide (i = 11))])) m3 = some (.lst [.bl (decide (i = 0)), .bl (decide (i = 1)), .bl (decide (i = 2)), .bl (decide (i = 3)), .bl (decide (i = 4)), .bl (decide (i = 5)), .bl (decide (i = 6)), .bl (decide (i = 7)), .bl (decide (i = 8)), .bl (decide (i = 9)), .bl (decide (i = 10)), .bl (decide (i = 11))]) := upd_same
    have sm3 : Same D3 (upd D3 m3 (.lst ([.bl (decide (i = 0)), .bl (decide (i = 1)), .bl (decide (i = 2)), .bl (decide (i = 3)), .bl (decide (i = 4)), .bl (decide (i = 5)), .bl (decide (i = 6)), .bl (decide (i = 7)), .bl (decide (i = 8))] ++ [.bl (decide (i = 9)), .bl (decide (i = 10)), .bl (decide (i = 11))]))) := same_new hm3
    generalize upd D3 m3 (.lst ([.bl (decide (i = 0)), .bl (decide (i = 1)), .bl (decide (i = 2)), .bl (decide (i = 3)), .bl (decide (i = 4)), .bl (decide (i = 5)), .bl (decide (i = 6)), .bl (decide (i = 7)), .bl (decide (i = 8))] ++ [.bl (decide (i = 9)), .bl (decide (i = 10)), .bl (decide (i = 11))])) = M3 at am3 sm3 ⊢
    have here4 : Same H M3 := (sl0.trans (sl1.trans (sm1.trans (sl2.trans (sm2.trans (sl3.trans (sm3)))))))
    refine ⟨_, rfl, ?_⟩
    refine ⟨_, rfl, e, C i, fs, _, _, _, rfl, .own _, hx.same here4, L.x i hi, L.kit i 12 hi (by decide), ?_⟩
    refine ⟨_, rfl, e, C i, fs, _, _, _, rfl, .own _, hx.same here4, L.x i hi, L.kit i 13 hi (by decide), ?_⟩
    refine ⟨_, rfl, e, C i, fs, _, _, _, rfl, .own _, hx.same here4, L.x i hi, L.kit i 14 hi (by decide), ?_⟩
    refine ⟨(by show 3 ≤ sizeLine; decide), fun l4 hl4 => ?_⟩
    have al4 : upd M3 l4 (.lst [.bl (decide (i = 12)), .bl (decide (i = 13)), .bl (decide (i = 14))]) l4 = some (.lst [.bl (decide (i = 12)), .bl (decide (i = 13)), .bl (decide (i = 14))]) := upd_same
    have sl4 : Same M3 (upd M3 l4 (.lst [.bl (decide (i = 12)), .bl (decide (i = 13)), .bl (decide (i = 14))])) := same_new hl4
    generalize upd M3 l4 (.lst [.bl (decide (i = 12)), .bl (decide (i = 13)), .bl (decide (i = 14))]) = D4 at al4 sl4 ⊢
    have old4 := sl4 _ _ am3
    refine ⟨m3, l4, _, _, rfl, rfl, old4, al4, (by show 15 ≤ sizeLine; decide), fun m4 hm4 => ?_⟩
    have am4 : upd D4 m4 (.lst ([.bl (decide (i = 0)), .bl (decide (i = 1)), .bl (decide (i = 2)), .bl (decide (i = 3)), .bl (decide (i = 4)), .bl (decide (i = 5)), .bl (decide (i = 6)), .bl (decide (i = 7)), .bl (decide (i = 8)), .bl (decide (i = 9)), .bl (decide (i = 10)), .bl (decide (i = 11))] ++ [.bl (decide (i = 12)), .bl (decide (i = 13)), .bl (decide (i = 14))])) m4 = some (.lst [.bl (decide (i = 0)), .bl (decide (i = 1)), .bl (decide (i = 2)), .bl (decide (i = 3)), .bl (decide (i = 4)), .bl (decide (i = 5)), .bl (decide (i = 6)), .bl (decide (i = 7)), .bl (decide (i = 8)), .bl (decide (i = 9)), .bl (decide (i = 10)), .bl (decide (i = 11)), .bl (decide (i = 12)), .bl (decide (i = 13)), .bl (decide (i = 14))]) := upd_same
    have sm4 : Same D4 (upd D4 m4 (.lst ([.bl (decide (i = 0)), .bl (decide (i = 1)), .bl (decide (i = 2)), .bl (decide (i = 3)), .bl (decide (i = 4)), .bl (decide (i = 5)), .bl (decide (i = 6)), .bl (decide (i = 7)), .bl (decide (i = 8)), .bl (decide (i = 9)), .bl (decide (i = 10)), .bl (decide (i = 11))] ++ [.bl (decide (i = 12)), .bl (decide (i = 13)), .bl (decide (i = 14))]))) := same_new hm4
    generalize upd D4 m4 (.lst ([.bl (decide (i = 0)), .bl (decide (i = 1)), .bl (decide (i = 2)), .bl (decide (i = 3)), .bl (decide (i = 4)), .bl (decide (i = 5)), .bl (decide (i = 6)), .bl (decide (i = 7)), .bl (decide (i = 8)), .bl (decide (i = 9)), .bl (decide (i = 10)), .bl (decide (i = 11))] ++ [.bl (decide (i = 12)), .bl (decide (i = 13)), .bl (decide (i = 14))])) = M4 at am4 sm4 ⊢
    have here5 : Same H M4 := (sl0.trans (sl1.trans (sm1.trans (sl2.trans (sm2.trans (sl3.trans (sm3.trans (sl4.trans (sm4)))))))))
    refine ⟨_, rfl, ?_⟩
    refine ⟨_, rfl, e, C i, fs, _, _, _, rfl, .own _, hx.same here5, L.x i hi, L.kit i 15 hi (by decide), ?_⟩
    refine ⟨_, rfl, e, C i, fs, _, _, _, rfl, .own _, hx.same here5, L.x i hi, L.kit i 16 hi (by decide), ?_⟩
    refine ⟨_, rfl, e, C i, fs, _, _, _, rfl, .own _, hx.same here5, L.x i hi, L.kit i 17 hi (by decide), ?_⟩
    refine ⟨(by show 3 ≤ sizeLine; decide), fun l5 hl5 => ?_⟩
    have al5 : upd M4 l5 (.lst [.bl (decide (i = 15)), .bl (decide (i = 16)), .bl (decide (i = 17))]) l5 = some (.lst [.bl (decide (i = 15)), .bl (decide (i = 16)), .bl (decide (i = 17))]) := upd_same
    have sl5 : Same M4 (upd M4 l5 (.lst [.bl (decide (i = 15)), .bl (decide (i = 16)), .bl (decide (i = 17))])) := same_new hl5
    generalize upd M4 l5 (.lst [.bl (decide (i = 15)), .bl (decide (i = 16)), .bl (decide (i = 17))]) = D5 at al5 sl5 ⊢
    have old5 := sl5 _ _ am4
    refine ⟨m4, l5, _, _, rfl, rfl, old5, al5, (by show 18 ≤ sizeLine; decide), fun m5 hm5 => ?_⟩
    have am5 : upd D5 m5 (.lst ([.bl (decide (i = 0)), .bl (decide (i = 1)), .bl (decide (i = 2)), .bl (decide (i = 3)), .bl (decide (i = 4)), .bl (decide (i = 5)), .bl (decide (i = 6)), .bl (decide (i = 7)), .bl (decide (i = 8)), .bl (decide (i = 9)), .bl (decide (i = 10)), .bl (decide (i = 11)), .bl (decide (i = 12)), .bl (decide (i = 13)), .bl (decide (i = 14))] ++ [.bl (decide (i = 15)), .bl (decide (i = 16)), .bl (decide (i = 17))])) m5 = some (.lst [.bl (decide (i = 0)), .bl (decide (i = 1)), .bl (decide (i = 2)), .bl (decide (i = 3)), .bl (decide (i = 4)), .bl (decide (i = 5)), .bl (decide (i = 6)), .bl (decide (i = 7)), .bl (decide (i = 8)), .bl (decide (i = 9)), .bl (decide (i = 10)), .bl (decide (i = 11)), .bl (decide (i = 12)), .bl (decide (i = 13)), .bl (decide (i = 14)), .bl (decide (i = 15)), .bl (decide (i = 16)), .bl (decide (i = 17))]) := upd_same
    have sm5 : Same D5 (upd D5 m5 (.lst ([.bl (decide (i = 0)), .bl (decide (i = 1)), .bl (decide (i = 2)), .bl (decide (i = 3)), .bl (decide (i = 4)), .bl (decide (i = 5)), .bl (decide (i = 6)), .bl (decide (i = 7)), .bl (decide (i = 8)), .bl (decide (i = 9)), .bl (decide (i = 10)), .bl (decide (i = 11)), .bl (decide (i = 12)), .bl (decide (i = 13)), .bl (decide (i = 14))] ++ [.bl (decide (i = 15)), .bl (decide (i = 16)), .bl (decide (i = 17))]))) := same_new hm5
    generalize upd D5 m5 (.lst ([.bl (decide (i = 0)), .bl (decide (i = 1)), .bl (decide (i = 2)), .bl (decide (i = 3)), .bl (decide (i = 4)), .bl (decide (i = 5)), .bl (decide (i = 6)), .bl (decide (i = 7)), .bl (decide (i = 8)), .bl (decide (i = 9)), .bl (decide (i = 10)), .bl (decide (i = 11)), .bl (decide (i = 12)), .bl (decide (i = 13)), .bl (decide (i = 14))] ++ [.bl (decide (i = 15)), .bl (decide (i = 16)), .bl (decide (i = 17))])) = M5 at am5 sm5 ⊢
    have here6 : Same H M5 := (sl0.trans (sl1.trans (sm1.trans (sl2.trans (sm2.trans (sl3.trans (sm3.trans (sl4.trans (sm4.trans (sl5.trans (sm5)))))))))))
    refine ⟨_, rfl, ?_⟩
    refine ⟨_, rfl, e, C i, fs, _, _, _, rfl, .own _, hx.same here6, L.x i hi, L.kit i 18 hi (by decide), ?_⟩
    refine ⟨_, rfl, e, C i, fs, _, _, _, rfl, .own _, hx.same here6, L.x i hi, L.kit i 19 hi (by decide), ?_⟩
    refine ⟨_, rfl, e, C i, fs, _, _, _, rfl, .own _, hx.same here6, L.x i hi, L.kit i 20 hi (by decide), ?_⟩
    refine ⟨(by show 3 ≤ sizeLine; decide), fun l6 hl6 => ?_⟩
    have al6 : upd M5 l6 (.lst [.bl (decide (i = 18)), .bl (decide (i = 19)), .bl (decide (i = 20))]) l6 = some (.lst [.bl (decide (i = 18)), .bl (decide (i = 19)), .bl (decide (i = 20))]) := upd_same
    have sl6 : Same M5 (upd M5 l6 (.lst [.bl (decide (i = 18)), .bl (decide (i = 19)), .bl (decide (i = 20))])) := same_new hl6
    generalize upd M5 l6 (.lst [.bl (decide (i = 18)), .bl (decide (i = 19)), .bl (decide (i = 20))]) = D6 at al6 sl6 ⊢
    have old6 := sl6 _ _ am5
    refine ⟨m5, l6, _, _, rfl, rfl, old6, al6, (by show 21 ≤ sizeLine; decide), fun m6 hm6 => ?_⟩
    have am6 : upd D6 m6 (.lst ([.bl (decide (i = 0)), .bl (decide (i = 1)), .bl (decide (i = 2)), .bl (decide (i = 3)), .bl (decide (i = 4)), .bl (decide (i = 5)), .bl (decide (i = 6)), .bl (decide (i = 7)), .bl (decide (i = 8)), .bl (decide (i = 9)), .bl (decide (i = 10)), .bl (decide (i = 11)), .bl (decide (i = 12)), .bl (decide (i = 13)), .bl (decide (i = 14)), .bl (decide (i = 15)), .bl (decide (i = 16)), .bl (decide (i = 17))] ++ [.bl (decide (i = 18)), .bl (decide (i = 19)), .bl (decide (i = 20))])) m6 = some (.lst [.bl (decide (i = 0)), .bl (decide (i = 1)), .bl (decide (i = 2)), .bl (decide (i = 3)), .bl (decide (i = 4)), .bl (decide (i = 5)), .bl (decide (i = 6)), .bl (decide (i = 7)), .bl (decide (i = 8)), .bl (decide (i = 9)), .bl (decide (i = 10)), .bl (decide (i = 11)), .bl (decide (i = 12)), .bl (decide (i = 13)), .bl (decide (i = 14)), .bl (decide (i = 15)), .bl (decide (i = 16)), .bl (decide (i = 17)), .bl (decide (i = 18)), .bl (decide (i = 19)), .bl (decide (i = 20))]) := upd_same
    have sm6 : Same D6 (upd D6 m6 (.lst ([.bl (decide (i = 0)), .bl (decide (i = 1)), .bl (decide (i = 2)), .bl (decide (i = 3)), .bl (decide (i = 4)), .bl (decide (i = 5)), .bl (decide (i = 6)), .bl (decide (i = 7)), .bl (decide (i = 8)), .bl (decide (i = 9)), .bl (decide (i = 10)), .bl (decide (i = 11)), .bl (decide (i = 12)), .bl (decide (i = 13)), .bl (decide (i = 14)), .bl (decide (i = 15)), .bl (decide (i = 16)), .bl (decide (i = 17))] ++ [.bl (decide (i = 18)), .bl (decide (i = 19)), .bl (decide (i = 20))]))) := same_new hm6
    generalize upd D6 m6 (.lst ([.bl (decide (i = 0)), .bl (decide (i = 1)), .bl (decide (i = 2)), .bl (decide (i = 3)), .bl (decide (i = 4)), .bl (decide (i = 5)), .bl (decide (i = 6)), .bl (decide (i = 7)), .bl (decide (i = 8)), .bl (decide (i = 9)), .bl (decide (i = 10)), .bl (decide (i = 11)), .bl (decide (i = 12)), .bl (decide (i = 13)), .bl (decide (i = 14)), .bl (decide (i = 15)), .bl (decide (i = 16)), .bl (decide (i = 17))] ++ [.bl (decide (i = 18)), .bl (decide (i = 19)), .bl (decide (i = 20))])) = M6 at am6 sm6 ⊢
    have here7 : Same H M6 := (sl0.trans (sl1.trans (sm1.trans (sl2.trans (sm2.trans (sl3.trans (sm3.trans (sl4.trans (sm4.trans (sl5.trans (sm5.trans (sl6.trans (sm6)))))))))))))
    refine ⟨_, rfl, ?_⟩
    refine ⟨_, rfl, e, C i, fs, _, _, _, rfl, .own _, hx.same here7, L.x i hi, L.kit i 21 hi (by decide), ?_⟩
    refine ⟨_, rfl, e, C i, fs, _, _, _, rfl, .own _, hx.same here7, L.x i hi, L.kit i 22 hi (by decide), ?_⟩
    refine ⟨_, rfl, e, C i, fs, _, _, _, rfl, .own _, hx.same here7, L.x i hi, L.kit i 23 hi (by decide), ?_⟩
    refine ⟨(by show 3 ≤ sizeLine; decide), fun l7 hl7 => ?_⟩
    have al7 : upd M6 l7 (.lst [.bl (decide (i = 21)), .bl (decide (i = 22)), .bl (decide (i = 23))]) l7 = some (.lst [.bl (decide (i = 21)), .bl (decide (i = 22)), .bl (decide (i = 23))]) := upd_same
    have sl7 : Same M6 (upd M6 l7 (.lst [.bl (decide (i = 21)), .bl (decide (i = 22)), .bl (decide (i = 23))])) := same_new hl7
    generalize upd M6 l7 (.lst [.bl (decide (i = 21)), .bl (decide (i = 22)), .bl (decide (i = 23))]) = D7 at al7 sl7 ⊢
    have old7 := sl7 _ _ am6
    refine ⟨m6, l7, _, _, rfl, rfl, old7, al7, (by show 24 ≤ sizeLine; decide), fun m7 hm7 => ?_⟩
    have am7 : upd D7 m7 (.lst ([.bl (decide (i = 0)), .bl (decide (i = 1)), .bl (decide (i = 2)), .bl (decide (i = 3)), .bl (decide (i = 4)), .bl (decide (i = 5)), .bl (decide (i = 6)), .bl (decide (i = 7)), .bl (decide (i = 8)), .bl (decide (i = 9)), .bl (decide (i = 10)), .bl (decide (i = 11)), .bl (decide (i = 12)), .bl (decide (i = 13)), .bl (decide (i = 14)), .bl (decide (i = 15)), .bl (decide (i = 16)), .bl (decide (i = 17)), .bl (decide (i = 18)), .bl (decide (i = 19)), .bl (decide (i = 20))] ++ [.bl (decide (i = 21)), .bl (decide (i = 22)), .bl (decide (i = 23))])) m7 = some (.lst [.bl (decide (i = 0)), .bl (decide (i = 1)), .bl (decide (i = 2)), .bl (decide (i = 3)), .bl (decide (i = 4)), .bl (decide (i = 5)), .bl (decide (i = 6)), .bl (decide (i = 7)), .bl (decide (i = 8)), .bl (decide (i = 9)), .bl (decide (i = 10)), .bl (decide (i = 11)), .bl (decide (i = 12)), .bl (decide (i = 13)), .bl (decide (i = 14)), .bl (decide (i = 15)), .bl (decide (i = 16)), .bl (decide (i = 17)), .bl (decide (i = 18)), .bl (decide (i = 19)), .bl (decide (i = 20)), .bl (decide (i = 21)), .bl (decide (i = 22)), .bl (decide (i = 23))]) := upd_same
    have sm7 : Same D7 (upd D7 m7 (.lst ([.bl (decide (i = 0)), .bl (decide (i = 1)), .bl (decide (i = 2)), .bl (decide (i = 3)), .bl (decide (i = 4)), .bl (decide (i = 5)), .bl (decide (i = 6)), .bl (decide (i = 7)), .bl (decide (i = 8)), .bl (decide (i = 9)), .bl (decide (i = 10)), .bl (decide (i = 11)), .bl (decide (i = 12)), .bl (decide (i = 13)), .bl (decide (i = 14)), .bl (decide (i = 15)), .bl (decide (i = 16)), .bl (decide (i = 17)), .bl (decide (i = 18)), .bl (decide (i = 19)), .bl (decide (i = 20))] ++ [.bl (decide (i = 21)), .bl (decide (i = 22)), .bl (decide (i = 23))]))) := same_new hm7
    generalize upd D7 m7 (.lst ([.bl (decide (i = 0)), .bl (decide (i = 1)), .bl (decide (i = 2)), .bl (decide (i = 3)), .bl (decide (i = 4)), .bl (decide (i = 5)), .bl (decide (i = 6)), .bl (decide (i = 7)), .bl (decide (i = 8)), .bl (decide (i = 9)), .bl (decide (i = 10)), .bl (decide (i = 11)), .bl (decide (i = 12)), .bl (decide (i = 13)), .bl (decide (i = 14)), .bl (decide (i = 15)), .bl (decide (i = 16)), .bl (decide (i = 17)), .bl (decide (i = 18)), .bl (decide (i = 19)), .bl (decide (i = 20))] ++ [.bl (decide (i = 21)), .bl (decide (i = 22)), .bl (decide (i = 23))])) = M7 at am7 sm7 ⊢
    have here8 : Same H M7 := (sl0.trans (sl1.trans (sm1.trans (sl2.trans (sm2.trans (sl3.trans (sm3.trans (sl4.trans (sm4.trans (sl5.trans (sm5.trans (sl6.trans (sm6.trans (sl7.trans (sm7)))))))))))))))
    refine ⟨_, rfl, ?_⟩
    refine ⟨_, rfl, e, C i, fs, _, _, _, rfl, .own _, hx.same here8, L.x i hi, L.kit i 24 hi (by decide), ?_⟩
    refine ⟨_, rfl, e, C i, fs, _, _, _, rfl, .own _, hx.same here8, L.x i hi, L.kit i 25 hi (by decide), ?_⟩
    refine ⟨_, rfl, e, C i, fs, _, _, _, rfl, .own _, hx.same here8, L.x i hi, L.kit i 26 hi (by decide), ?_⟩
    refine ⟨(by show 3 ≤ sizeLine; decide), fun l8 hl8 => ?_⟩
    have al8 : upd M7 l8 (.lst [.bl (decide (i = 24)), .bl (decide (i = 25)), .bl (decide (i = 26))]) l8 = some (.lst [.bl (decide (i = 24)), .bl (decide (i = 25)), .bl (decide (i = 26))]) := upd_same
    have sl8 : Same M7 (upd M7 l8 (.lst [.bl (decide (i = 24)), .bl (decide (i = 25)), .bl (decide (i = 26))])) := same_new hl8
    generalize upd M7 l8 (.lst [.bl (decide (i = 24)), .bl (decide (i = 25)), .bl (decide (i = 26))]) = D8 at al8 sl8 ⊢
    have old8 := sl8 _ _ am7
    refine ⟨m7, l8, _, _, rfl, rfl, old8, al8, (by show 27 ≤ sizeLine; decide), fun m8 hm8 => ?_⟩
    have am8 : upd D8 m8 (.lst ([.bl (decide (i = 0)), .bl (decide (i = 1)), .bl (decide (i = 2)), .bl (decide (i = 3)), .bl (decide (i = 4)), .bl (decide (i = 5)), .bl (decide (i = 6)), .bl (decide (i = 7)), .bl (decide (i = 8)), .bl (decide (i = 9)), .bl (decide (i = 10)), .bl (decide (i = 11)), .bl (decide (i = 12)), .bl (decide (i = 13)), .bl (decide (i = 14)), .bl (decide (i = 15)), .bl (decide (i = 16)), .bl (decide (i = 17)), .bl (decide (i = 18)), .bl (decide (i = 19)), .bl (decide (i = 20)), .bl (decide (i = 21)), .bl (decide (i = 22)), .bl (decide (i = 23))] ++ [.bl (decide (i = 24)), .bl (decide (i = 25)), .bl (decide (i = 26))])) m8 = some (.lst [.bl (decide (i = 0)), .bl (decide (i = 1)), .bl (decide (i = 2)), .bl (decide (i = 3)), .bl (decide (i = 4)), .bl (decide (i = 5)), .bl (decide (i = 6)), .bl (decide (i = 7)), .bl (decide (i = 8)), .bl (decide (i = 9)), .bl (decide (i = 10)), .bl (decide (i = 11)), .bl (decide (i = 12)), .bl (decide (i = 13)), .bl (decide (i = 14)), .bl (decide (i = 15)), .bl (decide (i = 16)), .bl (decide (i = 17)), .bl (decide (i = 18)), .bl (decide (i = 19)), .bl (decide (i = 20)), .bl (decide (i = 21)), .bl (decide (i = 22)), .bl (decide (i = 23)), .bl (decide (i = 24)), .bl (decide (i = 25)), .bl (decide (i = 26))]) := upd_same
    have sm8 : Same D8 (upd D8 m8 (.lst ([.bl (decide (i = 0)), .bl (decide (i = 1)), .bl (decide (i = 2)), .bl (decide (i = 3)), .bl (decide (i = 4)), .bl (decide (i = 5)), .bl (decide (i = 6)), .bl (decide (i = 7)), .bl (decide (i = 8)), .bl (decide (i = 9)), .bl (decide (i = 10)), .bl (decide (i = 11)), .bl (decide (i = 12)), .bl (decide (i = 13)), .bl (decide (i = 14)), .bl (decide (i = 15)), .bl (decide (i = 16)), .bl (decide (i = 17)), .bl (decide (i = 18)), .bl (decide (i = 19)), .bl (decide (i = 20)), .bl (decide (i = 21)), .bl (decide (i = 22)), .bl (decide (i = 23))] ++ [.bl (decide (i = 24)), .bl (decide (i = 25)), .bl (decide (i = 26))]))) := same_new hm8
    generalize upd D8 m8 (.lst ([.bl (decide (i = 0)), .bl (decide (i = 1)), .bl (decide (i = 2)), .bl (decide (i = 3)), .bl (decide (i = 4)), .bl (decide (i = 5)), .bl (decide (i = 6)), .bl (decide (i = 7)), .bl (decide (i = 8)), .bl (decide (i = 9)), .bl (decide (i = 10)), .bl (decide (i = 11)), .bl (decide (i = 12)), .bl (decide (i = 13)), .bl (decide (i = 14)), .bl (decide (i = 15)), .bl (decide (i = 16)), .bl (decide (i = 17)), .bl (decide (i = 18)), .bl (decide (i = 19)), .bl (decide (i = 20)), .bl (decide (i = 21)), .bl (decide (i = 22)), .bl (decide (i = 23))] ++ [.bl (decide (i = 24)), .bl (decide (i = 25)), .bl (decide (i = 26))])) = M8 at am8 sm8 ⊢
    have here9 : Same H M8 := (sl0.trans (sl1.trans (sm1.trans (sl2.trans (sm2.trans (sl3.trans (sm3.trans (sl4.trans (sm4.trans (sl5.trans (sm5.trans (sl6.trans (sm6.trans (sl7.trans (sm7.trans (sl8.trans (sm8)))))))))))))))))
    refine ⟨_, rfl, ?_⟩
    refine ⟨_, rfl, e, C i, fs, _, _, _, rfl, .own _, hx.same here9, L.x i hi, L.kit i 27 hi (by decide), ?_⟩
    refine ⟨_, rfl, e, C i, fs, _, _, _, rfl, .own _, hx.same here9, L.x i hi, L.kit i 28 hi (by decide), ?_⟩
    refine ⟨(by show 2 ≤ sizeLine; decide), fun l9 hl9 => ?_⟩
    have al9 : upd M8 l9 (.lst [.bl (decide (i = 27)), .bl (decide (i = 28))]) l9 = some (.lst [.bl (decide (i = 27)), .bl (decide (i = 28))]) := upd_same
    have sl9 : Same M8 (upd M8 l9 (.lst [.bl (decide (i = 27)), .bl (decide (i = 28))])) := same_new hl9
    generalize upd M8 l9 (.lst [.bl (decide (i = 27)), .bl (decide (i = 28))]) = D9 at al9 sl9 ⊢
    have old9 := sl9 _ _ am8
    refine ⟨m8, l9, _, _, rfl, rfl, old9, al9, (by show 29 ≤ sizeLine; decide), fun m9 hm9 => ?_⟩
    have am9 : upd D9 m9 (.lst ([.bl (decide (i = 0)), .bl (decide (i = 1)), .bl (decide (i = 2)), .bl (decide (i = 3)), .bl (decide (i = 4)), .bl (decide (i = 5)), .bl (decide (i = 6)), .bl (decide (i = 7)), .bl (decide (i = 8)), .bl (decide (i = 9)), .bl (decide (i = 10)), .bl (decide (i = 11)), .bl (decide (i = 12)), .bl (decide (i = 13)), .bl (decide (i = 14)), .bl (decide (i = 15)), .bl (decide (i = 16)), .bl (decide (i = 17)), .bl (decide (i = 18)), .bl (decide (i = 19)), .bl (decide (i = 20)), .bl (decide (i = 21)), .bl (decide (i = 22)), .bl (decide (i = 23)), .bl (decide (i = 24)), .bl (decide (i = 25)), .bl (decide (i = 26))] ++ [.bl (decide (i = 27)), .bl (decide (i = 28))])) m9 = some (.lst [.bl (decide (i = 0)), .bl (decide (i = 1)), .bl (decide (i = 2)), .bl (decide (i = 3)), .bl (decide (i = 4)), .bl (decide (i = 5)), .bl (decide (i = 6)), .bl (decide (i = 7)), .bl (decide (i = 8)), .bl (decide (i = 9)), .bl (decide (i = 10)), .bl (decide (i = 11)), .bl (decide (i = 12)), .bl (decide (i = 13)), .bl (decide (i = 14)), .bl (decide (i = 15)), .bl (decide (i = 16)), .bl (decide (i = 17)), .bl (decide (i = 18)), .bl (decide (i = 19)), .bl (decide (i = 20)), .bl (decide (i = 21)), .bl (decide (i = 22)), .bl (decide (i = 23)), .bl (decide (i = 24)), .bl (decide (i = 25)), .bl (decide (i = 26)), .bl (decide (i = 27)), .bl (decide (i = 28))]) := upd_same
    have sm9 : Same D9 (upd D9 m9 (.lst ([.bl (decide (i = 0)), .bl (decide (i = 1)), .bl (decide (i = 2)), .bl (decide (i = 3)), .bl (decide (i = 4)), .bl (decide (i = 5)), .bl (decide (i = 6)), .bl (decide (i = 7)), .bl (decide (i = 8)), .bl (decide (i = 9)), .bl (decide (i = 10)), .bl (decide (i = 11)), .bl (decide (i = 12)), .bl (decide (i = 13)), .bl (decide (i = 14)), .bl (decide (i = 15)), .bl (decide (i = 16)), .bl (decide (i = 17)), .bl (decide (i = 18)), .bl (decide (i = 19)), .bl (decide (i = 20)), .bl (decide (i = 21)), .bl (decide (i = 22)), .bl (decide (i = 23)), .bl (decide (i = 24)), .bl (decide (i = 25)), .bl (decide (i = 26))] ++ [.bl (decide (i = 27)), .bl (decide (i = 28))]))) := same_new hm9
    generalize upd D9 m9 (.lst ([.bl (decide (i = 0)), .bl (decide (i = 1)), .bl (decide (i = 2)), .bl (decide (i = 3)), .bl (decide (i = 4)), .bl (decide (i = 5)), .bl (decide (i = 6)), .bl (decide (i = 7)), .bl (decide (i = 8)), .bl (decide (i = 9)), .bl (decide (i = 10)), .bl (decide (i = 11)), .bl (decide (i = 12)), .bl (decide (i = 13)), .bl (decide (i = 14)), .bl (decide (i = 15)), .bl (decide (i = 16)), .bl (decide (i = 17)), .bl (decide (i = 18)), .bl (decide (i = 19)), .bl (decide (i = 20)), .bl (decide (i = 21)), .bl (decide (i = 22)), .bl (decide (i = 23)), .bl (decide (i = 24)), .bl (decide (i = 25)), .bl (decide (i = 26))] ++ [.bl (decide (i = 27)), .bl (decide (i = 28))])) = M9 at am9 sm9 ⊢
    refine ⟨_, rfl, ?_⟩
    exact k _ m9 (sl0.trans (sl1.trans (sm1.trans (sl2.trans (sm2.trans (sl3.trans (sm3.trans (sl4.trans (sm4.trans (sl5.trans (sm5.trans (sl6.trans (sm6.trans (sl7.trans (sm7.trans (sl8.trans (sm8.trans (sl9.trans (sm9))))))))))))))))))) am9
set_option maxHeartbeats 40000000 in
theorem ok_bases {f D : Addr} {C : Nat → Addr} {fd : FuncData} (F : Fun K "_law_bases" "_law_bases" s__law_bases f fd) (T : Blt mg) (L : Laws P w K mg base C D) : FnOk P w K mg base CX0 1 f fd ["_law_e"] (spBases C) := by
  have sc := sc__law_bases
  refine F.ok sc (fun vs H Q E h => ?_) (fun cdv A outer s H vs Q E hr h => ?_)
  · obtain ⟨e, i, fs, rfl, _⟩ := h
    rfl
  · obtain ⟨e, i, fs, rfl, hi, hx, k⟩ := h
    refine ⟨_, (pss_cons (ps_set (i := 1) sc.nd rfl (.inl rfl) (pe_lst (pa_cons (pe_callB call_xis (by rfl) T.n_isinstance (by decide +kernel) (pa_cons (pv 0) (pa_cons (pe_glob (v := .ref D) (by rfl) L.pair rfl) pa_nil))) (pa_cons (pe_callB call_xis (by rfl) T.n_isinstance (by decide +kernel) (pa_cons (pv 0) (pa_cons (pe_bltn (v := .ty "ValueError") (by rfl) T.n_ValueError (by decide +kernel) rfl) pa_nil))) (pa_cons (pe_callB call_xis (by rfl) T.n_isinstance (by decide +kernel) (pa_cons (pv 0) (pa_cons (pe_bltn (v := .ty "LookupError") (by rfl) T.n_LookupError (by decide +kernel) rfl) pa_nil))) pa_nil)))))
      (pss_one (ps_ret (pe_op op_cat (pv 1) (pe_lst (pa_cons (pe_callB call_xis (by rfl) T.n_isinstance (by decide +kernel) (pa_cons (pv 0) (pa_cons (pe_bltn (v := .ty "RuntimeError") (by rfl) T.n_RuntimeError (by decide +kernel) rfl) pa_nil))) (pa_cons (pe_callB call_xis (by rfl) T.n_isinstance (by decide +kernel) (pa_cons (pv 0) (pa_cons (pe_bltn (v := .ty "ArithmeticError") (by rfl) T.n_ArithmeticError (by decide +kernel) rfl) pa_nil))) pa_nil))))))), ?_⟩
    have here0 : Same H H := (Same.refl _)
    refine ⟨_, rfl, e, C i, fs, _, _, _, rfl, .own _, hx.same here0, L.x i hi, L.kp i hi, ?_⟩
    refine ⟨_, rfl, e, C i, fs, _, _, _, rfl, .ty _, hx.same here0, L.x i hi, L.kv i hi, ?_⟩
    refine ⟨_, rfl, e, C i, fs, _, _, _, rfl, .ty _, hx.same here0, L.x i hi, L.kl i hi, ?_⟩
    refine ⟨(by show 3 ≤ sizeLine; decide), fun l0 hl0 => ?_⟩
    have al0 : upd H l0 (.lst [.bl (decide (i < 17)), .bl (decide (i < 17)), .bl (!decide (i < 17) && decide (i < 20))]) l0 = some (.lst [.bl (decide (i < 17)), .bl (decide (i < 17)), .bl (!decide (i < 17) && decide (i < 20))]) := upd_same
    have sl0 : Same H (upd H l0 (.lst [.bl (decide (i < 17)), .bl (decide (i < 17)), .bl (!decide (i < 17) && decide (i < 20))])) := same_new hl0
    generalize upd H l0 (.lst [.bl (decide (i < 17)), .bl (decide (i < 17)), .bl (!decide (i < 17) && decide (i < 20))]) = D0 at al0 sl0 ⊢
    have here1 : Same H D0 := sl0
    refine ⟨_, rfl, ?_⟩
    refine ⟨_, rfl, e, C i, fs, _, _, _, rfl, .ty _, hx.same here1, L.x i hi, L.kr i hi, ?_⟩
    refine ⟨_, rfl, e, C i, fs, _, _, _, rfl, .ty _, hx.same here1, L.x i hi, L.ka i hi, ?_⟩
    refine ⟨(by show 2 ≤ sizeLine; decide), fun l1 hl1 => ?_⟩
    have al1 : upd D0 l1 (.lst [.bl (decide (20 ≤ i) && decide (i < 28)), .bl (decide (i = 28))]) l1 = some (.lst [.bl (decide (20 ≤ i) && decide (i < 28)), .bl (decide (i = 28))]) := upd_same
    have sl1 : Same D0 (upd D0 l1 (.lst [.bl (decide (20 ≤ i) && decide (i < 28)), .bl (decide (i = 28))])) := same_new hl1
    generalize upd D0 l1 (.lst [.bl (decide (20 ≤ i) && decide (i < 28)), .bl (decide (i = 28))]) = D1 at al1 sl1 ⊢
    have old1 := sl1 _ _ al0
    refine ⟨l0, l1, _, _, rfl, rfl, old1, al1, (by show 5 ≤ sizeLine; decide), fun m1 hm1 => ?_⟩
    have am1 : upd D1 m1 (.lst ([.bl (decide (i < 17)), .bl (decide (i < 17)), .bl (!decide (i < 17) && decide (i < 20))] ++ [.bl (decide (20 ≤ i) && decide (i < 28)), .bl (decide (i = 28))])) m1 = some (.lst [.bl (decide (i < 17)), .bl (decide (i < 17)), .bl (!decide (i < 17) && decide (i < 20)), .bl (decide (20 ≤ i) && decide (i < 28)), .bl (decide (i = 28))]) := upd_same
    have sm1 : Same D1 (upd D1 m1 (.lst ([.bl (decide (i < 17)), .bl (decide (i < 17)), .bl (!decide (i < 17) && decide (i < 20))] ++ [.bl (decide (20 ≤ i) && decide (i < 28)), .bl (decide (i = 28))]))) := same_new hm1
    generalize upd D1 m1 (.lst ([.bl (decide (i < 17)), .bl (decide (i < 17)), .bl (!decide (i < 17) && decide (i < 20))] ++ [.bl (decide (20 ≤ i) && decide (i < 28)), .bl (decide (i = 28))])) = M1 at am1 sm1 ⊢
    exact k _ m1 (sl0.trans (sl1.trans (sm1))) am1
def spDueBases : Sp := fun vs H Q _ => ∃ i : Nat, vs = [.int i] ∧ i < 29 ∧ ∀ H' l, Same H H' →
  H' l = some (.lst ([decide (i < 17), decide (i < 17), !decide (i < 17) && decide (i < 20), decide (20 ≤ i) && decide (i < 28), decide (i = 28)].map V.bl)) → Q (.ref l) H'
theorem ok_due_bases {f : Addr} {fd : FuncData} (F : Fun K "_law_due_bases" "_law_due_bases" s__law_due_bases f fd) (T : Blt mg) : FnOk P w K mg base CX0 1 f fd ["_law_at"] spDueBases := by
  have sc := sc__law_due_bases
  refine F.ok sc (fun vs H Q E h => ?_) (fun cdv A outer s H vs Q E hr h => ?_)
  · obtain ⟨i, rfl, _⟩ := h
    rfl
  · obtain ⟨i, rfl, hi, k⟩ := h
    refine ⟨_, (pss_cons (ps_if (pt_cmpR op_lt (pv 0) pe_int (nomark _)) (pss_one (ps_ret (pe_lst (pa_cons pe_bl (pa_cons pe_bl (pa_cons pe_bl (pa_cons pe_bl (pa_cons pe_bl pa_nil)))))))) pss_nil)
      (pss_one (ps_ret (pe_lst (pa_cons pe_bl (pa_cons pe_bl (pa_cons (pe_cmpR op_lt (pv 0) pe_int (nomark _)) (pa_cons (pe_chain op_le op_lt pe_int (pv 0) pe_int) (pa_cons (pe_cmpR op_eq (pv 0) pe_int (nomark _)) pa_nil))))))))), ?_⟩
    refine ⟨_, rfl, _, _, rfl, rfl, _, rfl, ite2 (fun e => ?_) (fun e => ?_)⟩
    · have lt : i < 17 := by
        have e1 := of_decide_eq_true e
        omega
      refine ⟨(by show 5 ≤ sizeLine; decide), fun l hl => k _ _ (same_new hl) ?_⟩
      have e1 : decide (i < 17) = true := decide_eq_true lt
      have e3 : decide (20 ≤ i) = false := decide_eq_false (by omega)
      have e4 : decide (i = 28) = false := decide_eq_false (by omega)
      rw [e1, e3, e4]
      exact upd_same
    · have ge : ¬ i < 17 := fun z => e (decide_eq_true (by omega))
      have e1 : decide (i < 17) = false := decide_eq_false ge
      have e2 : decide ((i : Int) < 20) = decide (i < 20) := decide_eq_decide.mpr (by omega)
      have e3 : decide ((20 : Int) ≤ i) = decide (20 ≤ i) := decide_eq_decide.mpr (by omega)
      have e4 : decide ((i : Int) < 28) = decide (i < 28) := decide_eq_decide.mpr (by omega)
      have e5 : decide (V.int (i : Int) = V.int 28) = decide (i = 28) := decide_eq_decide.mpr ⟨fun z => by have := V.int.inj z; omega, fun z => by rw [z]; rfl⟩
      refine ⟨_, rfl, _, _, rfl, rfl, _, rfl, _, _, rfl, rfl, _, rfl, ite2 (fun c => ?_) (fun c => ?_)⟩
      · refine ⟨_, _, rfl, rfl, _, rfl, rfl, (by show 5 ≤ sizeLine; decide), fun l hl => k _ _ (same_new hl) ?_⟩
        have e6 : decide (20 ≤ i) = true := e3.symm.trans c
        rw [e1, e6]
        refine Eq.trans upd_same ?_
        dsimp only
        rw [e2, e4, e5]
        rfl
      · refine ⟨_, rfl, rfl, (by show 5 ≤ sizeLine; decide), fun l hl => k _ _ (same_new hl) ?_⟩
        have e6 : decide (20 ≤ i) = false := e3.symm.trans (Bool.eq_false_iff.mpr c)
        rw [e1, e6]
        refine Eq.trans upd_same ?_
        dsimp only
        rw [e2, e5]
        rfl
/-- the attributes, in the text's order, as they are due -/
def due (a b c d : V) : List V := [a, a, a, a, a, a, a, a, a, a, b, a, a, a, a, a, a, a, a, a, a, a, b, c, a, b, c, d, a, a, a, b]
def spFields (C : Nat → Addr) : Sp := fun vs H Q _ => ∃ (l : Addr) (es : List V) (a b c d : V), vs = [.ref l] ∧ H l = some (.lst es) ∧ ExAll H C [a, b, c, d] es ∧ ∀ H' p, Same H H' → p ≠ sysModules → H' p = some (.lst (due a b c d)) → Q (.ref p) H'
set_option maxHeartbeats 40000000 in
theorem ok_fields {f D : Addr} {C : Nat → Addr} {fd : FuncData} (F : Fun K "_law_fields" "_law_fields" s__law_fields f fd) (L : Laws P w K mg base C D) : FnOk P w K mg base CX0 1 f fd ["_law_some"] (spFields C) := by
  have sc := sc__law_fields
  refine F.ok sc (fun vs H Q E h => ?_) (fun cdv A outer s H vs Q E hr h => ?_)
  · obtain ⟨l, es, a, b, c, d, rfl, _⟩ := h
    rfl
  · obtain ⟨l, es, a, b, c, d, rfl, hl, hx, k⟩ := h
    obtain ⟨x0, p0, w0⟩ := hx.2 0 (by decide)
    obtain ⟨x1, p1, w1⟩ := hx.2 1 (by decide)
    obtain ⟨x2, p2, w2⟩ := hx.2 2 (by decide)
    obtain ⟨x3, p3, w3⟩ := hx.2 3 (by decide)
    obtain ⟨x4, p4, w4⟩ := hx.2 4 (by decide)
    obtain ⟨x5, p5, w5⟩ := hx.2 5 (by decide)
    obtain ⟨x6, p6, w6⟩ := hx.2 6 (by decide)
    obtain ⟨x7, p7, w7⟩ := hx.2 7 (by decide)
    obtain ⟨x8, p8, w8⟩ := hx.2 8 (by decide)
    obtain ⟨x9, p9, w9⟩ := hx.2 9 (by decide)
    obtain ⟨x10, p10, w10⟩ := hx.2 10 (by decide)
    obtain ⟨x12, p12, w12⟩ := hx.2 12 (by decide)
    obtain ⟨x13, p13, w13⟩ := hx.2 13 (by decide)
    obtain ⟨x14, p14, w14⟩ := hx.2 14 (by decide)
    obtain ⟨x15, p15, w15⟩ := hx.2 15 (by decide)
    obtain ⟨x16, p16, w16⟩ := hx.2 16 (by decide)
    obtain ⟨x17, p17, w17⟩ := hx.2 17 (by decide)
    obtain ⟨x18, p18, w18⟩ := hx.2 18 (by decide)
    obtain ⟨x19, p19, w19⟩ := hx.2 19 (by decide)
    obtain ⟨x20, p20, w20⟩ := hx.2 20 (by decide)
    obtain ⟨x21, p21, w21⟩ := hx.2 21 (by decide)
    obtain ⟨x22, p22, w22⟩ := hx.2 22 (by decide)
    obtain ⟨x24, p24, w24⟩ := hx.2 24 (by decide)
    obtain ⟨x25, p25, w25⟩ := hx.2 25 (by decide)
    obtain ⟨x28, p28, w28⟩ := hx.2 28 (by decide)
    refine ⟨_, (pss_cons (ps_set (i := 1) sc.nd rfl (.inl rfl) (pe_lst (pa_cons (pe_xfld (pe_ix ix_list (pv 0) pe_int (fun _ _ => rfl))) (pa_cons (pe_xfld (pe_ix ix_list (pv 0) pe_int (fun _ _ => rfl))) (pa_cons (pe_xfld (pe_ix ix_list (pv 0) pe_int (fun _ _ => rfl))) (pa_cons (pe_xfld (pe_ix ix_list (pv 0) pe_int (fun _ _ => rfl))) (pa_cons (pe_xfld (pe_ix ix_list (pv 0) pe_int (fun _ _ => rfl))) pa_nil)))))))
      (pss_cons (ps_set (i := 1) sc.nd rfl (.inl rfl) (pe_op op_cat (pv 1) (pe_lst (pa_cons (pe_xfld (pe_ix ix_list (pv 0) pe_int (fun _ _ => rfl))) (pa_cons (pe_xfld (pe_ix ix_list (pv 0) pe_int (fun _ _ => rfl))) (pa_cons (pe_xfld (pe_ix ix_list (pv 0) pe_int (fun _ _ => rfl))) (pa_cons (pe_xfld (pe_ix ix_list (pv 0) pe_int (fun _ _ => rfl))) (pa_cons (pe_xfld (pe_ix ix_list (pv 0) pe_int (fun _ _ => rfl))) pa_nil))))))))
      (pss_cons (ps_set (i := 1) sc.nd rfl (.inl rfl) (pe_op op_cat (pv 1) (pe_lst (pa_cons (pe_xfld (pe_ix ix_list (pv 0) pe_int (fun _ _ => rfl))) (pa_cons (pe_xfld (pe_ix ix_list (pv 0) pe_int (fun _ _ => rfl))) (pa_cons (pe_xfld (pe_ix ix_list (pv 0) pe_int (fun _ _ => rfl))) (pa_cons (pe_xfld (pe_ix ix_list (pv 0) pe_int (fun _ _ => rfl))) (pa_cons (pe_xfld (pe_ix ix_list (pv 0) pe_int (fun _ _ => rfl))) pa_nil))))))))
      (pss_cons (ps_set (i := 1) sc.nd rfl (.inl rfl) (pe_op op_cat (pv 1) (pe_lst (pa_cons (pe_xfld (pe_ix ix_list (pv 0) pe_int (fun _ _ => rfl))) (pa_cons (pe_xfld (pe_ix ix_list (pv 0) pe_int (fun _ _ => rfl))) (pa_cons (pe_xfld (pe_ix ix_list (pv 0) pe_int (fun _ _ => rfl))) (pa_cons (pe_xfld (pe_ix ix_list (pv 0) pe_int (fun _ _ => rfl))) (pa_cons (pe_xfld (pe_ix ix_list (pv 0) pe_int (fun _ _ => rfl))) pa_nil))))))))
      (pss_cons (ps_set (i := 1) sc.nd rfl (.inl rfl) (pe_op op_cat (pv 1) (pe_lst (pa_cons (pe_xfld (pe_ix ix_list (pv 0) pe_int (fun _ _ => rfl))) (pa_cons (pe_xfld (pe_ix ix_list (pv 0) pe_int (fun _ _ => rfl))) (pa_cons (pe_xfld (pe_ix ix_list (pv 0) pe_int (fun _ _ => rfl))) (pa_cons (pe_xfld (pe_ix ix_list (pv 0) pe_int (fun _ _ => rfl))) (pa_cons (pe_xfld (pe_ix ix_list (pv 0) pe_int (fun _ _ => rfl))) pa_nil))))))))
      (pss_cons (ps_set (i := 1) sc.nd rfl (.inl rfl) (pe_op op_cat (pv 1) (pe_lst (pa_cons (pe_xfld (pe_ix ix_list (pv 0) pe_int (fun _ _ => rfl))) (pa_cons (pe_xfld (pe_ix ix_list (pv 0) pe_int (fun _ _ => rfl))) (pa_cons (pe_xfld (pe_ix ix_list (pv 0) pe_int (fun _ _ => rfl))) (pa_cons (pe_xfld (pe_ix ix_list (pv 0) pe_int (fun _ _ => rfl))) (pa_cons (pe_xfld (pe_ix ix_list (pv 0) pe_int (fun _ _ => rfl))) (pa_cons (pe_xfld (pe_ix ix_list (pv 0) pe_int (fun _ _ => rfl))) pa_nil)))))))))
      (pss_cons (ps_set (i := 1) sc.nd rfl (.inl rfl) (pe_op op_catF (pv 1) (pe_lst (pa_cons (pe_xfld (pe_ix ix_list (pv 0) pe_int (fun _ _ => rfl))) pa_nil))))
      (pss_one (ps_ret (pv 1)))))))))), ?_⟩
    have here0 : Same H H := (Same.refl _)
    refine ⟨_, rfl, l, es, 0, _, rfl, rfl, SqL.of (here0 _ _ hl), atI_nat (j := 0) p0, x0, C 0, _, a, rfl, w0.same here0, L.x 0 (by decide), L.no 0 (by decide) _ (by decide +kernel), by rfl, ?_⟩
    refine ⟨_, rfl, l, es, 1, _, rfl, rfl, SqL.of (here0 _ _ hl), atI_nat (j := 1) p1, x1, C 1, _, a, rfl, w1.same here0, L.x 1 (by decide), L.no 1 (by decide) _ (by decide +kernel), by rfl, ?_⟩
    refine ⟨_, rfl, l, es, 2, _, rfl, rfl, SqL.of (here0 _ _ hl), atI_nat (j := 2) p2, x2, C 2, _, a, rfl, w2.same here0, L.x 2 (by decide), L.no 2 (by decide) _ (by decide +kernel), by rfl, ?_⟩
    refine ⟨_, rfl, l, es, 3, _, rfl, rfl, SqL.of (here0 _ _ hl), atI_nat (j := 3) p3, x3, C 3, _, a, rfl, w3.same here0, L.x 3 (by decide), L.no 3 (by decide) _ (by decide +kernel), by rfl, ?_⟩
    refine ⟨_, rfl, l, es, 4, _, rfl, rfl, SqL.of (here0 _ _ hl), atI_nat (j := 4) p4, x4, C 4, _, a, rfl, w4.same here0, L.x 4 (by decide), L.no 4 (by decide) _ (by decide +kernel), by rfl, ?_⟩
    refine ⟨(by show 5 ≤ sizeLine; decide), fun l0 hl0 => ?_⟩
    have al0 : upd H l0 (.lst [a, a, a, a, a]) l0 = some (.lst [a, a, a, a, a]) := upd_same
    have sl0 : Same H (upd H l0 (.lst [a, a, a, a, a])) := same_new hl0
    generalize upd H l0 (.lst [a, a, a, a, a]) = D0 at al0 sl0 ⊢
    have here1 : Same H D0 := sl0
    refine ⟨_, rfl, ?_⟩
    refine ⟨_, rfl, l, es, 5, _, rfl, rfl, SqL.of (here1 _ _ hl), atI_nat (j := 5) p5, x5, C 5, _, a, rfl, w5.same here1, L.x 5 (by decide), L.no 5 (by decide) _ (by decide +kernel), by rfl, ?_⟩
    refine ⟨_, rfl, l, es, 6, _, rfl, rfl, SqL.of (here1 _ _ hl), atI_nat (j := 6) p6, x6, C 6, _, a, rfl, w6.same here1, L.x 6 (by decide), L.no 6 (by decide) _ (by decide +kernel), by rfl, ?_⟩
    refine ⟨_, rfl, l, es, 7, _, rfl, rfl, SqL.of (here1 _ _ hl), atI_nat (j := 7) p7, x7, C 7, _, a, rfl, w7.same here1, L.x 7 (by decide), L.no 7 (by decide) _ (by decide +kernel), by rfl, ?_⟩
    refine ⟨_, rfl, l, es, 8, _, rfl, rfl, SqL.of (here1 _ _ hl), atI_nat (j := 8) p8, x8, C 8, _, a, rfl, w8.same here1, L.x 8 (by decide), L.no 8 (by decide) _ (by decide +kernel), by rfl, ?_⟩
    refine ⟨_, rfl, l, es, 9, _, rfl, rfl, SqL.of (here1 _ _ hl), atI_nat (j := 9) p9, x9, C 9, _, a, rfl, w9.same here1, L.x 9 (by decide), L.no 9 (by decide) _ (by decide +kernel), by rfl, ?_⟩
    refine ⟨(by show 5 ≤ sizeLine; decide), fun l1 hl1 => ?_⟩
    have al1 : upd D0 l1 (.lst [a, a, a, a, a]) l1 = some (.lst [a, a, a, a, a]) := upd_same
    have sl1 : Same D0 (upd D0 l1 (.lst [a, a, a, a, a])) := same_new hl1
    generalize upd D0 l1 (.lst [a, a, a, a, a]) = D1 at al1 sl1 ⊢
    have old1 := sl1 _ _ al0
    refine ⟨l0, l1, _, _, rfl, rfl, old1, al1, (by show 10 ≤ sizeLine; decide), fun m1 hm1 => ?_⟩
    have am1 : upd D1 m1 (.lst ([a, a, a, a, a] ++ [a, a, a, a, a])) m1 = some (.lst [a, a, a, a, a, a, a, a, a, a]) := upd_same
    have sm1 : Same D1 (upd D1 m1 (.lst ([a, a, a, a, a] ++ [a, a, a, a, a]))) := same_new hm1
    generalize upd D1 m1 (.lst ([a, a, a, a, a] ++ [a, a, a, a, a])) = M1 at am1 sm1 ⊢
    have here2 : Same H M1 := (sl0.trans (sl1.trans (sm1)))
    refine ⟨_, rfl, ?_⟩
    refine ⟨_, rfl, l, es, 9, _, rfl, rfl, SqL.of (here2 _ _ hl), atI_nat (j := 9) p9, x9, C 9, _, b, rfl, w9.same here2, L.x 9 (by decide), L.no 9 (by decide) _ (by decide +kernel), by rfl, ?_⟩
    refine ⟨_, rfl, l, es, 10, _, rfl, rfl, SqL.of (here2 _ _ hl), atI_nat (j := 10) p10, x10, C 10, _, a, rfl, w10.same here2, L.x 10 (by decide), L.no 10 (by decide) _ (by decide +kernel), by rfl, ?_⟩
    refine ⟨_, rfl, l, es, 12, _, rfl, rfl, SqL.of (here2 _ _ hl), atI_nat (j := 12) p12, x12, C 12, _, a, rfl, w12.same here2, L.x 12 (by decide), L.no 12 (by decide) _ (by decide +kernel), by rfl, ?_⟩
    refine ⟨_, rfl, l, es, 13, _, rfl, rfl, SqL.of (here2 _ _ hl), atI_nat (j := 13) p13, x13, C 13, _, a, rfl, w13.same here2, L.x 13 (by decide), L.no 13 (by decide) _ (by decide +kernel), by rfl, ?_⟩
    refine ⟨_, rfl, l, es, 14, _, rfl, rfl, SqL.of (here2 _ _ hl), atI_nat (j := 14) p14, x14, C 14, _, a, rfl, w14.same here2, L.x 14 (by decide), L.no 14 (by decide) _ (by decide +kernel), by rfl, ?_⟩
    refine ⟨(by show 5 ≤ sizeLine; decide), fun l2 hl2 => ?_⟩
    have al2 : upd M1 l2 (.lst [b, a, a, a, a]) l2 = some (.lst [b, a, a, a, a]) := upd_same
    have sl2 : Same M1 (upd M1 l2 (.lst [b, a, a, a, a])) := same_new hl2
    generalize upd M1 l2 (.lst [b, a, a, a, a]) = D2 at al2 sl2 ⊢
    have old2 := sl2 _ _ am1
    refine ⟨m1, l2, _, _, rfl, rfl, old2, al2, (by show 15 ≤ sizeLine; decide), fun m2 hm2 => ?_⟩
    have am2 : upd D2 m2 (.lst ([a, a, a, a, a, a, a, a, a, a] ++ [b, a, a, a, a])) m2 = some (.lst [a, a, a, a, a, a, a, a, a, a, b, a, a, a, a]) := upd_same
    have sm2 : Same D2 (upd D2 m2 (.lst ([a, a, a, a, a, a, a, a, a, a] ++ [b, a, a, a, a]))) := same_new hm2
    generalize upd D2 m2 (.lst ([a, a, a, a, a, a, a, a, a, a] ++ [b, a, a, a, a])) = M2 at am2 sm2 ⊢
    have here3 : Same H M2 := (sl0.trans (sl1.trans (sm1.trans (sl2.trans (sm2)))))
    refine ⟨_, rfl, ?_⟩
    refine ⟨_, rfl, l, es, 15, _, rfl, rfl, SqL.of (here3 _ _ hl), atI_nat (j := 15) p15, x15, C 15, _, a, rfl, w15.same here3, L.x 15 (by decide), L.no 15 (by decide) _ (by decide +kernel), by rfl, ?_⟩
    refine ⟨_, rfl, l, es, 16, _, rfl, rfl, SqL.of (here3 _ _ hl), atI_nat (j := 16) p16, x16, C 16, _, a, rfl, w16.same here3, L.x 16 (by decide), L.no 16 (by decide) _ (by decide +kernel), by rfl, ?_⟩
    refine ⟨_, rfl, l, es, 17, _, rfl, rfl, SqL.of (here3 _ _ hl), atI_nat (j := 17) p17, x17, C 17, _, a, rfl, w17.same here3, L.x 17 (by decide), L.no 17 (by decide) _ (by decide +kernel), by rfl, ?_⟩
    refine ⟨_, rfl, l, es, 18, _, rfl, rfl, SqL.of (here3 _ _ hl), atI_nat (j := 18) p18, x18, C 18, _, a, rfl, w18.same here3, L.x 18 (by decide), L.no 18 (by decide) _ (by decide +kernel), by rfl, ?_⟩
    refine ⟨_, rfl, l, es, 19, _, rfl, rfl, SqL.of (here3 _ _ hl), atI_nat (j := 19) p19, x19, C 19, _, a, rfl, w19.same here3, L.x 19 (by decide), L.no 19 (by decide) _ (by decide +kernel), by rfl, ?_⟩
    refine ⟨(by show 5 ≤ sizeLine; decide), fun l3 hl3 => ?_⟩
    have al3 : upd M2 l3 (.lst [a, a, a, a, a]) l3 = some (.lst [a, a, a, a, a]) := upd_same
    have sl3 : Same M2 (upd M2 l3 (.lst [a, a, a, a, a])) := same_new hl3
    generalize upd M2 l3 (.lst [a, a, a, a, a]) = D3 at al3 sl3 ⊢
    have old3 := sl3 _ _ am2
    refine ⟨m2, l3, _, _, rfl, rfl, old3, al3, (by show 20 ≤ sizeLine; decide), fun m3 hm3 => ?_⟩
    have am3 : upd D3 m3 (.lst ([a, a, a, a, a, a, a, a, a, a, b, a, a, a, a] ++ [a, a, a, a, a])) m3 = some (.lst [a, a, a, a, a, a, a, a, a, a, b, a, a, a, a, a, a, a, a, a]) := upd_same
    have sm3 : Same D3 (upd D3 m3 (.lst ([a, a, a, a, a, a, a, a, a, a, b, a, a, a, a] ++ [a, a, a, a, a]))) := same_new hm3
    generalize upd D3 m3 (.lst ([a, a, a, a, a, a, a, a, a, a, b, a, a, a, a] ++ [a, a, a, a, a])) = M3 at am3 sm3 ⊢
    have here4 : Same H M3 := (sl0.trans (sl1.trans (sm1.trans (sl2.trans (sm2.trans (sl3.trans (sm3)))))))
    refine ⟨_, rfl, ?_⟩
    refine ⟨_, rfl, l, es, 20, _, rfl, rfl, SqL.of (here4 _ _ hl), atI_nat (j := 20) p20, x20, C 20, _, a, rfl, w20.same here4, L.x 20 (by decide), L.no 20 (by decide) _ (by decide +kernel), by rfl, ?_⟩
    refine ⟨_, rfl, l, es, 21, _, rfl, rfl, SqL.of (here4 _ _ hl), atI_nat (j := 21) p21, x21, C 21, _, a, rfl, w21.same here4, L.x 21 (by decide), L.no 21 (by decide) _ (by decide +kernel), by rfl, ?_⟩
    refine ⟨_, rfl, l, es, 21, _, rfl, rfl, SqL.of (here4 _ _ hl), atI_nat (j := 21) p21, x21, C 21, _, b, rfl, w21.same here4, L.x 21 (by decide), L.no 21 (by decide) _ (by decide +kernel), by rfl, ?_⟩
    refine ⟨_, rfl, l, es, 21, _, rfl, rfl, SqL.of (here4 _ _ hl), atI_nat (j := 21) p21, x21, C 21, _, c, rfl, w21.same here4, L.x 21 (by decide), L.no 21 (by decide) _ (by decide +kernel), by rfl, ?_⟩
    refine ⟨_, rfl, l, es, 22, _, rfl, rfl, SqL.of (here4 _ _ hl), atI_nat (j := 22) p22, x22, C 22, _, a, rfl, w22.same here4, L.x 22 (by decide), L.no 22 (by decide) _ (by decide +kernel), by rfl, ?_⟩
    refine ⟨(by show 5 ≤ sizeLine; decide), fun l4 hl4 => ?_⟩
    have al4 : upd M3 l4 (.lst [a, a, b, c, a]) l4 = some (.lst [a, a, b, c, a]) := upd_same
    have sl4 : Same M3 (upd M3 l4 (.lst [a, a, b, c, a])) := same_new hl4
    generalize upd M3 l4 (.lst [a, a, b, c, a]) = D4 at al4 sl4 ⊢
    have old4 := sl4 _ _ am3
    refine ⟨m3, l4, _, _, rfl, rfl, old4, al4, (by show 25 ≤ sizeLine; decide), fun m4 hm4 => ?_⟩
    have am4 : upd D4 m4 (.lst ([a, a, a, a, a, a, a, a, a, a, b, a, a, a, a, a, a, a, a, a] ++ [a, a, b, c, a])) m4 = some (.lst [a, a, a, a, a, a, a, a, a, a, b, a, a, a, a, a, a, a, a, a, a, a, b, c, a]) := upd_same
    have sm4 : Same D4 (upd D4 m4 (.lst ([a, a, a, a, a, a, a, a, a, a, b, a, a, a, a, a, a, a, a, a] ++ [a, a, b, c, a]))) := same_new hm4
    generalize upd D4 m4 (.lst ([a, a, a, a, a, a, a, a, a, a, b, a, a, a, a, a, a, a, a, a] ++ [a, a, b, c, a])) = M4 at am4 sm4 ⊢
    have here5 : Same H M4 := (sl0.trans (sl1.trans (sm1.trans (sl2.trans (sm2.trans (sl3.trans (sm3.trans (sl4.trans (sm4)))))))))
    refine ⟨_, rfl, ?_⟩
    refine ⟨_, rfl, l, es, 22, _, rfl, rfl, SqL.of (here5 _ _ hl), atI_nat (j := 22) p22, x22, C 22, _, b, rfl, w22.same here5, L.x 22 (by decide), L.no 22 (by decide) _ (by decide +kernel), by rfl, ?_⟩
    refine ⟨_, rfl, l, es, 22, _, rfl, rfl, SqL.of (here5 _ _ hl), atI_nat (j := 22) p22, x22, C 22, _, c, rfl, w22.same here5, L.x 22 (by decide), L.no 22 (by decide) _ (by decide +kernel), by rfl, ?_⟩
    refine ⟨_, rfl, l, es, 22, _, rfl, rfl, SqL.of (here5 _ _ hl), atI_nat (j := 22) p22, x22, C 22, _, d, rfl, w22.same here5, L.x 22 (by decide), L.no 22 (by decide) _ (by decide +kernel), by rfl, ?_⟩
    refine ⟨_, rfl, l, es, 24, _, rfl, rfl, SqL.of (here5 _ _ hl), atI_nat (j := 24) p24, x24, C 24, _, a, rfl, w24.same here5, L.x 24 (by decide), L.no 24 (by decide) _ (by decide +kernel), by rfl, ?_⟩
    refine ⟨_, rfl, l, es, 25, _, rfl, rfl, SqL.of (here5 _ _ hl), atI_nat (j := 25) p25, x25, C 25, _, a, rfl, w25.same here5, L.x 25 (by decide), L.no 25 (by decide) _ (by decide +kernel), by rfl, ?_⟩
    refine ⟨_, rfl, l, es, 28, _, rfl, rfl, SqL.of (here5 _ _ hl), atI_nat (j := 28) p28, x28, C 28, _, a, rfl, w28.same here5, L.x 28 (by decide), L.no 28 (by decide) _ (by decide +kernel), by rfl, ?_⟩
    refine ⟨(by show 6 ≤ sizeLine; decide), fun l5 hl5 => ?_⟩
    have al5 : upd M4 l5 (.lst [b, c, d, a, a, a]) l5 = some (.lst [b, c, d, a, a, a]) := upd_same
    have sl5 : Same M4 (upd M4 l5 (.lst [b, c, d, a, a, a])) := same_new hl5
    generalize upd M4 l5 (.lst [b, c, d, a, a, a]) = D5 at al5 sl5 ⊢
    have old5 := sl5 _ _ am4
    refine ⟨m4, l5, _, _, rfl, rfl, old5, al5, (by show 31 ≤ sizeLine; decide), fun m5 hm5 => ?_⟩
    have am5 : upd D5 m5 (.lst ([a, a, a, a, a, a, a, a, a, a, b, a, a, a, a, a, a, a, a, a, a, a, b, c, a] ++ [b, c, d, a, a, a])) m5 = some (.lst [a, a, a, a, a, a, a, a, a, a, b, a, a, a, a, a, a, a, a, a, a, a, b, c, a, b, c, d, a, a, a]) := upd_same
    have sm5 : Same D5 (upd D5 m5 (.lst ([a, a, a, a, a, a, a, a, a, a, b, a, a, a, a, a, a, a, a, a, a, a, b, c, a] ++ [b, c, d, a, a, a]))) := same_new hm5
    generalize upd D5 m5 (.lst ([a, a, a, a, a, a, a, a, a, a, b, a, a, a, a, a, a, a, a, a, a, a, b, c, a] ++ [b, c, d, a, a, a])) = M5 at am5 sm5 ⊢
    have here6 : Same H M5 := (sl0.trans (sl1.trans (sm1.trans (sl2.trans (sm2.trans (sl3.trans (sm3.trans (sl4.trans (sm4.trans (sl5.trans (sm5)))))))))))
    refine ⟨_, rfl, ?_⟩
    refine ⟨_, rfl, l, es, 28, _, rfl, rfl, SqL.of (here6 _ _ hl), atI_nat (j := 28) p28, x28, C 28, _, b, rfl, w28.same here6, L.x 28 (by decide), L.no 28 (by decide) _ (by decide +kernel), by rfl, ?_⟩
    refine ⟨(by show 1 ≤ sizeLine; decide), fun l6 hl6 => ?_⟩
    have al6 : upd M5 l6 (.lst [b]) l6 = some (.lst [b]) := upd_same
    have sl6 : Same M5 (upd M5 l6 (.lst [b])) := same_new hl6
    generalize upd M5 l6 (.lst [b]) = D6 at al6 sl6 ⊢
    have old6 := sl6 _ _ am5
    refine ⟨m5, l6, _, _, rfl, rfl, old6, al6, (by show 32 ≤ sizeLine; decide), fun m6 hm6 hf => ?_⟩
    have am6 : upd D6 m6 (.lst ([a, a, a, a, a, a, a, a, a, a, b, a, a, a, a, a, a, a, a, a, a, a, b, c, a, b, c, d, a, a, a] ++ [b])) m6 = some (.lst [a, a, a, a, a, a, a, a, a, a, b, a, a, a, a, a, a, a, a, a, a, a, b, c, a, b, c, d, a, a, a, b]) := upd_same
    have sm6 : Same D6 (upd D6 m6 (.lst ([a, a, a, a, a, a, a, a, a, a, b, a, a, a, a, a, a, a, a, a, a, a, b, c, a, b, c, d, a, a, a] ++ [b]))) := same_new hm6
    generalize upd D6 m6 (.lst ([a, a, a, a, a, a, a, a, a, a, b, a, a, a, a, a, a, a, a, a, a, a, b, c, a, b, c, d, a, a, a] ++ [b])) = M6 at am6 sm6 ⊢
    refine ⟨_, rfl, ?_⟩
    exact k _ m6 (sl0.trans (sl1.trans (sm1.trans (sl2.trans (sm2.trans (sl3.trans (sm3.trans (sl4.trans (sm4.trans (sl5.trans (sm5.trans (sl6.trans (sm6))))))))))))) hf am6
end
end K11

set_option Elab.async false
set_option linter.all false
set_option maxRecDepth 100000
set_option maxHeartbeats 8000000
namespace K11
open PySem PySem.Spec L2 PSG
open PyProof.Rows (IntsAre AllBare)
abbrev s__law_right : Stmt := topS 43
theorem sc__law_right : FnScope ["_law_some", "_law_a", "_law_b", "_law_c", "_law_d", "_law_at", "_law_e", "_law_k"] ["_law_some", "_law_a", "_law_b", "_law_c", "_law_d"] (defScope s__law_right) := ⟨rfl, rfl, rfl, by decide +kernel, rfl, by decide +kernel, by decide +kernel⟩
abbrev s_law : Stmt := topS 44
theorem sc_law : FnScope ["_law_script", "_law_k", "_law_rng_here", "_law_a", "_law_b", "_law_c", "_law_d", "_law_some", "_law_others", "_law_turn"] ["_law_script"] (defScope s_law) := ⟨rfl, rfl, rfl, by decide +kernel, rfl, by decide +kernel, by decide +kernel⟩

def spans : List Nat := [1, 1, 1, 1, 1, 1, 1, 1, 1, 2, 1, 0, 1, 1, 1, 1, 1, 1, 1, 1, 1, 3, 4, 0, 1, 1, 0, 0, 2]
/-- for i, x in enumerate(list) -/
theorem for_enum {K : PySem.W.Frag} {a : Addr} {xs : List V} {g : TG} {tb : TS} {D : Ends} {σ : L2.St} {H : Hp} (Pv : Nat → L2.St → Hp → Prop) (h0 : Pv 0 σ H) (hl : ∀ i σ H, Pv i σ H → SqL K H a xs)
    (hs : ∀ i x σ H T, xs[i]? = some x → Pv i σ H → H T = none → g (.ref T) σ (upd H T (.tup [.int (i : Nat), x])) fun σ2 H2 => tb { D with nx := Pv (i + 1), ct := Pv (i + 1), bk := D.nx } σ2 H2) (hd : ∀ σ H, Pv xs.length σ H → D.nx σ H) :
    ∃ W : Nat → Nat → L2.St → Hp → Prop, (∃ m, W 0 m σ H) ∧ ∀ i m σ H, W i m σ H →
      ((Ite K a).stop i H ∧ D.nx σ H) ∨ ((Ite K a).go i H ∧ ∃ N : L2.St → Hp → Prop, (∀ σ' H', N σ' H' → ∃ m', m' < m ∧ W (i + 1) m' σ' H') ∧ ∀ x H', (Ite K a).yld i H x H' → g x σ H' fun σ2 H2 => tb { D with nx := N, ct := N, bk := D.nx } σ2 H2) := by
  refine ⟨fun i m σ H => m = xs.length - i ∧ i ≤ xs.length ∧ Pv i σ H, ⟨xs.length, by simp, Nat.zero_le _, h0⟩, fun i m σ H hw => ?_⟩
  obtain ⟨hm, hi, p⟩ := hw
  have sq := hl i σ H p
  by_cases lt : i < xs.length
  · refine .inr ⟨⟨xs, xs[i], sq, List.getElem?_eq_getElem lt⟩, Pv (i + 1), fun σ' H' q => ⟨m - 1, by omega, by omega, by omega, q⟩, fun v H' y => ?_⟩
    obtain ⟨T, x, rfl, hT, rfl, at_⟩ := y
    exact hs i x σ H T (at_ xs sq) p hT
  · have e : i = xs.length := by omega
    refine .inl ⟨⟨xs, sq, by omega⟩, hd σ H ?_⟩
    rw [← e]
    exact p
theorem cut_to (xs : List V) (n : Nat) : cutV xs none (some (n : Int)) = xs.take n := by
  unfold cutV
  rw [HT.sIx_none, HT.sIx_nat, List.drop_zero, Nat.sub_zero]
  by_cases h : n ≤ xs.length
  · rw [Nat.min_eq_left h]
  · rw [Nat.min_eq_right (by omega), List.take_of_length_le (Nat.le_refl _), List.take_of_length_le (by omega)]
section
variable {P : Program} {w : World} {K : PySem.W.Frag} {mg : Str → Option Value} {base : Heap}
def acc (a b c d : V) (l : List Nat) : List V := (l.map fun n => [a, b, c, d].take n).flatten
theorem acc_step (a b c d : V) (l : List Nat) {i n : Nat} (h : l[i]? = some n) : acc a b c d (l.take (i + 1)) = acc a b c d (l.take i) ++ [a, b, c, d].take n := by
  unfold acc
  rw [List.take_add_one, h, List.map_append, List.flatten_append]
  simp
theorem acc_len (a b c d : V) : ∀ l : List Nat, (acc a b c d l).length ≤ 4 * l.length
  | [] => Nat.zero_le _
  | n :: l => by
    have ih := acc_len a b c d l
    have e : acc a b c d (n :: l) = [a, b, c, d].take n ++ acc a b c d l := rfl
    have h1 : ([a, b, c, d].take n).length ≤ 4 := by rw [List.length_take]; exact Nat.min_le_right _ _
    rw [e, List.length_append]
    show _ ≤ 4 * (l.length + 1)
    omega
def spDueFields : Sp := fun vs H Q _ => ∃ a b c d : V, vs = [a, b, c, d] ∧ ∀ H' p, Same H H' → p ≠ sysModules → H' p = some (.lst (due a b c d)) → Q (.ref p) H'
theorem ok_due_fields {f : Addr} {fd : FuncData} (F : Fun K "_law_due_fields" "_law_due_fields" s__law_due_fields f fd) (T : Blt mg) : FnOk P w K mg base CX0 1 f fd ["_law_a", "_law_b", "_law_c", "_law_d"] spDueFields := by
  have sc := sc__law_due_fields
  refine F.ok sc (fun vs H Q E h => ?_) (fun cdv A outer s H vs Q E hr h => ?_)
  · obtain ⟨a, b, c, d, rfl, _⟩ := h
    rfl
  · obtain ⟨a, b, c, d, rfl, k⟩ := h
    refine ⟨_, (pss_cons (ps_set (i := 4) sc.nd rfl (.inl rfl) (pe_lst (pa_cons pe_int (pa_cons pe_int (pa_cons pe_int (pa_cons pe_int (pa_cons pe_int (pa_cons pe_int (pa_cons pe_int (pa_cons pe_int (pa_cons pe_int (pa_cons pe_int (pa_cons pe_int (pa_cons pe_int (pa_cons pe_int (pa_cons pe_int (pa_cons pe_int (pa_cons pe_int (pa_cons pe_int (pa_cons pe_int (pa_cons pe_int (pa_cons pe_int pa_nil))))))))))))))))))))))
      (pss_cons (ps_set (i := 4) sc.nd rfl (.inl rfl) (pe_op op_cat (pv 4) (pe_lst (pa_cons pe_int (pa_cons pe_int (pa_cons pe_int (pa_cons pe_int (pa_cons pe_int (pa_cons pe_int (pa_cons pe_int (pa_cons pe_int (pa_cons pe_int pa_nil))))))))))))
      (pss_cons (ps_set (i := 5) sc.nd rfl (.inl rfl) (pe_lstF pa_nil))
      (pss_cons (ps_for PassesOwn.never (by rfl) (pi_list (pv 4)) (pg_name (i := 6) sc.nd rfl (.inl rfl)) (pss_one (ps_expr (pe_bm PySem.F.plainAttrs_list PySem.F.slot_list_extend PySem.F.type_list_extend mt_extend (pv 5) (pa_cons (pe_slice sl_list (pe_lst (pa_cons (pv 0) (pa_cons (pv 1) (pa_cons (pv 2) (pa_cons (pv 3) pa_nil))))) po_none (po_some (pv 6))) pa_nil)))))
      (pss_one (ps_ret (pv 5))))))), ?_⟩
    refine ⟨(by show 20 ≤ sizeLine; decide), fun l0 hl0 => ?_⟩
    have a0 : upd H l0 (.lst ((spans.take 20).map fun n => V.int (n : Nat))) l0 = some (.lst ((spans.take 20).map fun n => V.int (n : Nat))) := upd_same
    have s0 : Same H (upd H l0 (.lst ((spans.take 20).map fun n => V.int (n : Nat)))) := same_new hl0
    change tSeq _ _ _ _ (upd H l0 (.lst ((spans.take 20).map fun n => V.int (n : Nat))))
    generalize upd H l0 (.lst ((spans.take 20).map fun n => V.int (n : Nat))) = H0 at a0 s0 ⊢
    refine ⟨_, rfl, (by show 9 ≤ sizeLine; decide), fun l1 hl1 => ?_⟩
    refine ⟨l0, l1, _, _, rfl, rfl, (upd_ne (ne_of_none a0 hl1)).trans a0, upd_same, (by show 29 ≤ sizeLine; decide), fun l2 hl2 => ?_⟩
    have s1 := same_new (o := .lst ([1, 3, 4, 0, 1, 1, 0, 0, 2].map fun n : Nat => V.int n)) hl1
    change tSeq _ _ _ _ (upd (upd H0 l1 (.lst ([1, 3, 4, 0, 1, 1, 0, 0, 2].map fun n : Nat => V.int n))) l2 (.lst (spans.map fun n => V.int (n : Nat))))
    change upd H0 l1 (.lst ([1, 3, 4, 0, 1, 1, 0, 0, 2].map fun n : Nat => V.int n)) l2 = none at hl2
    generalize upd H0 l1 (.lst ([1, 3, 4, 0, 1, 1, 0, 0, 2].map fun n : Nat => V.int n)) = H1 at s1 hl2 ⊢
    have a2 : upd H1 l2 (.lst (spans.map fun n => V.int (n : Nat))) l2 = some (.lst (spans.map fun n => V.int (n : Nat))) := upd_same
    have s2 : Same H1 (upd H1 l2 (.lst (spans.map fun n => V.int (n : Nat)))) := same_new hl2
    generalize upd H1 l2 (.lst (spans.map fun n => V.int (n : Nat))) = H2 at a2 s2 ⊢
    have t2 : Same H H2 := s0.trans (s1.trans s2)
    refine ⟨Nat.zero_le _, fun m hm hf => ?_⟩
    have nlm : l2 ≠ m := ne_of_none a2 hm
    refine ⟨_, rfl, l2, rfl, ⟨_, SqL.of ((upd_ne nlm).trans a2)⟩, for_list (K := K) (a := l2) (xs := spans.map fun n => V.int (n : Nat))
      (fun i σ G => ∃ v, σ = [some a, some b, some c, some d, some (.ref l2), some (.ref m), v] ∧ But m H2 G ∧ G m = some (.lst (acc a b c d (spans.take i)))) ⟨none, rfl, But.of (same_new hm), upd_same⟩ (fun i σ G _ ⟨_, _, b, _⟩ => SqL.of (b _ _ nlm a2)) ?_ ?_⟩
    · rintro i x σ G hx ⟨v, rfl, bt, am⟩
      obtain ⟨n, hn, rfl⟩ : ∃ n : Nat, spans[i]? = some n ∧ x = V.int n := by
        rw [List.getElem?_map] at hx
        cases e : spans[i]? with
        | none =>
          rw [e] at hx
          cases hx
        | some n =>
          rw [e] at hx
          exact ⟨n, rfl, (Option.some.inj hx).symm⟩
      have il : i < 29 := (List.getElem?_eq_some_iff.mp hn).1
      refine ⟨_, rfl, .inl ⟨rfl, _, SqL.of am⟩, _, rfl, _, rfl, _, rfl, _, rfl, (by show 4 ≤ sizeLine; decide), fun l hl => ?_⟩
      have nml : m ≠ l := ne_of_none am hl
      refine ⟨_, rfl, _, rfl, l, _, rfl, SqL.of upd_same, fun p hp => ?_⟩
      have nmp : m ≠ p := fun z => by
        rw [← z, upd_ne nml, am] at hp
        cases hp
      rw [cut_to] at *
      have len := acc_len a b c d (spans.take i)
      have lt : (spans.take i).length ≤ 29 := by rw [List.length_take]; exact Nat.le_trans (Nat.min_le_left _ _) (by omega)
      have tk : ([a, b, c, d].take n).length ≤ 4 := by rw [List.length_take]; exact Nat.min_le_right _ _
      refine ⟨m, p, _, _, rfl, rfl, (upd_ne nmp).trans ((upd_ne nml).trans am), upd_same, by rw [sizeLine_eq]; omega, ?_⟩
      refine ⟨_, rfl, fun b' o nb e => ?_, ?_⟩
      · have e1 := bt b' o nb e
        have nl : b' ≠ l := ne_of_none e1 hl
        have np : b' ≠ p := fun z => by
          rw [← z, upd_ne nl, e1] at hp
          cases hp
        exact (upd_ne nb).trans ((upd_ne np).trans ((upd_ne nl).trans e1))
      · rw [upd_same, acc_step a b c d spans hn]
    · rintro σ G ⟨v, rfl, bt, am⟩
      refine ⟨_, rfl, k G m (fun b' o e => ?_) hf ?_⟩
      · have e2 := t2 _ _ e
        exact bt _ _ (ne_of_none e2 hm) e2
      · exact am
end
end K11

set_option Elab.async false
set_option linter.all false
set_option maxRecDepth 100000
set_option maxHeartbeats 8000000
namespace K11
open PySem PySem.Spec L2 PSG
open PyProof.Rows (IntsAre AllBare)

mutual
theorem Dt.dp {far : Bool} {K : PySem.W.Frag} {H : Hp} : ∀ {v : V} {d : PyData}, Dt far H v d → d.hasDict = false → Dp K H v d
  | _, _, .non, _ => .non
  | _, _, .bl b, _ => .bl b
  | _, _, .int i, _ => .int i
  | _, _, .str x, _ => .str x
  | _, _, .lst e _ t, n => .lst (SqL.of e) (DtAll.dp t (by simpa [PyData.hasDict] using n))
  | _, _, .tup e t, n => .tup (SqT.of e) (DtAll.dp t (by simpa [PyData.hasDict] using n))
  | _, _, .dict _ _, n => by simp [PyData.hasDict] at n
theorem DtAll.dp {far : Bool} {K : PySem.W.Frag} {H : Hp} : ∀ {vs : List V} {ds : List PyData}, DtAll far H vs ds → PyData.hasDictAll ds = false → DpAll K H vs ds
  | _, _, .nil, _ => .nil
  | _, _, .cons h t, n => by
    simp only [PyData.hasDictAll, Bool.or_eq_false_iff] at n
    exact .cons (Dt.dp h n.1) (DtAll.dp t n.2)
end
theorem bools_dp {K : PySem.W.Frag} {H : Hp} : ∀ bs : List Bool, DpAll K H (bs.map V.bl) (bs.map PyData.bool)
  | [] => .nil
  | b :: bs => .cons (.bl b) (bools_dp bs)
theorem bools_lay : ∀ bs : List Bool, PyData.canLayAll0 (bs.map PyData.bool) = true
  | [] => by simp [PyData.canLayAll0]
  | b :: bs => by simp [PyData.canLayAll0, PyData.canLay0, bools_lay bs]
theorem bools_depth : ∀ bs : List Bool, PyData.depthAll (bs.map PyData.bool) ≤ 1
  | [] => by simp [PyData.depthAll]
  | b :: bs => by
    have ih := bools_depth bs
    simp only [List.map_cons, PyData.depthAll, PyData.depth]
    omega
theorem bools_shaped (bs : List Bool) : SeqAt.shaped (.list (bs.map PyData.bool)) = true := by
  have h := bools_depth bs
  unfold SeqAt.shaped
  have e : (PyData.list (bs.map PyData.bool)).canLay0 = true := by simp only [PyData.canLay0, bools_lay bs]
  have e2 : (PyData.list (bs.map PyData.bool)).depth ≤ 64 := by simp only [PyData.depth]; omega
  rw [e, decide_eq_true e2]
  rfl
theorem bools_same (bs : List Bool) : PyData.eqv (.list (bs.map PyData.bool)) (.list (bs.map PyData.bool)) = true := PySem.SeqAt.eqv_refl _ (by simp only [PyData.canLay0, bools_lay bs])
/-- two lists of the same truth values are not unlike -/
theorem ne_bools {K : PySem.W.Frag} {H : Hp} {l p : Addr} {bs : List Bool} {Q : VK} (h1 : H l = some (.lst (bs.map V.bl))) (h2 : H p = some (.lst (bs.map V.bl))) (q : Q (.bl false) H) : rNeD K (.ref l) (.ref p) H Q := by
  refine ⟨_, _, .lst (SqL.of h1) (bools_dp bs), .lst (SqL.of h2) (bools_dp bs), bools_shaped bs, bools_shaped bs, ?_⟩
  rw [bools_same]
  exact q
/-- a list of nice data -/
theorem nice_all : ∀ {ds : List PyData}, (∀ d ∈ ds, Nice d) → PyData.showableAll ds = true ∧ ((PyData.shownAll ds).map (·.length)).sum ≤ 100 * ds.length ∧ PyData.depthAll ds ≤ 6 ∧ (PyData.shownAll ds).length = ds.length
  | [], _ => by simp [PyData.showableAll, PyData.shownAll, PyData.depthAll]
  | d :: ds, h => by
    obtain ⟨h1, h2, h3, h4⟩ := nice_all (ds := ds) fun x hx => h x (List.mem_cons_of_mem _ hx)
    have n := h d List.mem_cons_self
    have n2 := n.ln
    have n3 := n.dp
    refine ⟨by simp only [PyData.showableAll, n.sh, h1, Bool.and_self], ?_, ?_, ?_⟩
    · simp only [PyData.shownAll, List.map_cons, List.sum_cons, List.length_cons]
      omega
    · simp only [PyData.depthAll]
      omega
    · simp only [PyData.shownAll, List.length_cons, h4]
theorem rep_list {H : Hp} {l : Addr} {xs : List V} {ds : List PyData} {Q : VK} (hl : H l = some (.lst xs)) (hf : l ≠ sysModules) (hd : DtAll true H xs ds) (hn : ∀ d ∈ ds, Nice d) (few : ds.length ≤ 1000) (q : Q (.str (PyData.list ds).shown) H) : rRep [.ref l] H Q := by
  obtain ⟨h1, h2, h3, h4⟩ := nice_all hn
  refine ⟨.ref l, .list ds, true, rfl, .lst hl (fun _ => hf) hd, fun _ => .inl rfl, by simpa only [PyData.showable] using h1, ?_, ?_, q⟩
  · have h5 := listText_len_le (PyData.shownAll ds)
    simp only [PyData.shown]
    rw [sizeLine_eq]
    omega
  · simp only [PyData.depth]
    omega
theorem Fun.okG {P : Program} {w : World} {K : PySem.W.Frag} {mg : Str → Option Value} {base : Heap} {x ql : Str} {st : Stmt} {f : Addr} {fd : FuncData} {N ps : List Str} {n : Nat} {sp : Sp} (F : Fun K x ql st f fd) (S : FnScope N ps (defScope st))
    (many : ∀ vs H Q E, sp vs H Q E → vs.length = ps.length)
    (main : ∀ (cdv : Value) (B : Around) (up : List Env) (s : Shared) (H : Hp) (vs : List V) (Q : VK) (E : XK), Room n (B.deeper (PyProof.Rows.envOfC ql (defScope st) s.heap.objs.size f cdv)) → B.guards = some [] → sp vs H Q E →
      ∃ t, PSs (cxOf CX0 P w K mg base N ql (defScope st) f cdv B up s H E).nox (defBody st) t ∧ t { nx := fun _ G => Q .non G, rt := Q } (start N vs) H) : FnG P w K mg base CX0 (n + 1) f fd ps sp := by
  obtain ⟨oc, od, kV, doc, pm, an, cdv, ct, osl, rfl, lk, hcd⟩ := F.ex
  refine fnG lk hcd S many fun B up s H vs Q E room gd ho => ?_
  obtain ⟨t, der, rd⟩ := main cdv B up s H vs Q E room gd ho
  exact ⟨t, der.nox, rd⟩
def dueD (a b c d : PyData) : List PyData := [a, a, a, a, a, a, a, a, a, a, b, a, a, a, a, a, a, a, a, a, a, a, b, c, a, b, c, d, a, a, a, b]
theorem due_all {far : Bool} {H : Hp} {a b c d : V} {da db dc dd : PyData} (ha : Dt far H a da) (hb : Dt far H b db) (hc : Dt far H c dc) (hd : Dt far H d dd) : DtAll far H (due a b c d) (dueD da db dc dd) :=
  .cons ha (.cons ha (.cons ha (.cons ha (.cons ha (.cons ha (.cons ha (.cons ha (.cons ha (.cons ha (.cons hb (.cons ha (.cons ha (.cons ha (.cons ha (.cons ha (.cons ha (.cons ha (.cons ha (.cons ha (.cons ha (.cons ha (.cons hb (.cons hc (.cons ha (.cons hb (.cons hc (.cons hd (.cons ha (.cons ha (.cons ha (.cons hb .nil)))))))))))))))))))))))))))))))
theorem due_nice {a b c d : PyData} (ha : Nice a) (hb : Nice b) (hc : Nice c) (hd : Nice d) : ∀ x ∈ dueD a b c d, Nice x := by
  intro x hx
  simp only [dueD, List.mem_cons, List.not_mem_nil, or_false] at hx
  rcases hx with rfl | rfl | rfl | rfl | rfl | rfl | rfl | rfl | rfl | rfl | rfl | rfl | rfl | rfl | rfl | rfl | rfl | rfl | rfl | rfl | rfl | rfl | rfl | rfl | rfl | rfl | rfl | rfl | rfl | rfl | rfl | rfl <;> assumption
section
variable {P : Program} {w : World} {K : PySem.W.Frag} {mg : Str → Option Value} {base : Heap}
def spRight (C : Nat → Addr) : Sp := fun vs H Q _ => ∃ (l : Addr) (es : List V) (a b c d : V) (da db dc dd : PyData), vs = [.ref l, a, b, c, d] ∧ H l = some (.lst es) ∧ ExAll H C [a, b, c, d] es ∧ (Dt true H a da ∧ Dt true H b db ∧ Dt true H c dc ∧ Dt true H d dd) ∧
  (Nice da ∧ Nice db ∧ Nice dc ∧ Nice dd) ∧ ∀ H', Same H H' → Q (.bl true) H'
set_option maxHeartbeats 40000000 in
theorem ok_right {f D f1 f2 f3 f4 f5 : Addr} {C : Nat → Addr} {fd d1 d2 d3 d4 d5 : FuncData} (F : Fun K "_law_right" "_law_right" s__law_right f fd) (T : Blt mg) (L : Laws P w K mg base C D)
    (F_classes : Fun K "_law_classes" "_law_classes" s__law_classes f1 d1) (b_classes : Binds K d1 ["_law_e"] []) (g_classes : mg "_law_classes" = some (.ref f1))
    (F_bases : Fun K "_law_bases" "_law_bases" s__law_bases f2 d2) (b_bases : Binds K d2 ["_law_e"] []) (g_bases : mg "_law_bases" = some (.ref f2))
    (F_due_bases : Fun K "_law_due_bases" "_law_due_bases" s__law_due_bases f3 d3) (b_due_bases : Binds K d3 ["_law_at"] []) (g_due_bases : mg "_law_due_bases" = some (.ref f3))
    (F_fields : Fun K "_law_fields" "_law_fields" s__law_fields f4 d4) (b_fields : Binds K d4 ["_law_some"] []) (g_fields : mg "_law_fields" = some (.ref f4))
    (F_due_fields : Fun K "_law_due_fields" "_law_due_fields" s__law_due_fields f5 d5) (b_due_fields : Binds K d5 ["_law_a", "_law_b", "_law_c", "_law_d"] []) (g_due_fields : mg "_law_due_fields" = some (.ref f5)) :
    FnG P w K mg base CX0 2 f fd ["_law_some", "_law_a", "_law_b", "_law_c", "_law_d"] (spRight C) := by
  have sc := sc__law_right
  have G_classes : FnOk P w K mg base CX0 1 f1 d1 _ (spClasses C) := ok_classes F_classes T L
  have G_bases : FnOk P w K mg base CX0 1 f2 d2 _ (spBases C) := ok_bases F_bases T L
  have G_due_bases : FnOk P w K mg base CX0 1 f3 d3 _ spDueBases := ok_due_bases F_due_bases T
  have G_fields : FnOk P w K mg base CX0 1 f4 d4 _ (spFields C) := ok_fields F_fields L
  have G_due_fields : FnOk P w K mg base CX0 1 f5 d5 _ spDueFields := ok_due_fields F_due_fields T
  refine Fun.okG F sc (fun vs H Q E h => ?_) (fun cdv B up s H vs Q E hr gd h => ?_)
  · obtain ⟨l, es, a, b, c, d, da, db, dc, dd, rfl, _⟩ := h
    rfl
  · obtain ⟨l, es, a, b, c, d, da, db, dc, dd, rfl, hl, hx, ⟨ta, tb, tc, td⟩, ⟨na, nb, nc, nd⟩, k⟩ := h
    have len : es.length = 29 := hx.1
    refine ⟨_, (pss_cons (ps_for PassesOwn.never (by rfl) (pi_enum (by rfl) T.n_enumerate (pa_cons (pv 0) pa_nil)) (pg_tup (by rfl) (pgs_cons (pg_name (i := 5) sc.nd rfl (.inr rfl)) (pgs_cons (pg_name (i := 6) sc.nd rfl (.inl rfl)) pgs_nil))) (pss_one (ps_if (PW.pt (pw_or (pt_cmpR (op_neD hr.units) (pe_call G_classes (hr.mono (by decide)) (by rfl) g_classes F_classes.kp b_classes .nil pass0 (pa_cons (pv 6) pa_nil)) (pe_lc (own := [("_law_k", 7)]) (g := gName 7) (tt := tYes) (by rfl) sc.nd (pi_range1 (by rfl) T.n_range (pa_cons (pe_callB call_len_seq (by rfl) T.n_len PySem.boot_len (pa_cons (pv 0) pa_nil)) pa_nil)) (blkOk_by (own := [("_law_k", 7)]) (N := ["_law_some", "_law_a", "_law_b", "_law_c", "_law_d", "_law_at", "_law_e", "_law_k"]) (sc := defScope s__law_right) (by decide +kernel)) (fun _ _ _ _ _ => pg_name (i := 7) sc.nd rfl (Or.inl rfl)) (fun _ _ _ _ _ => pts_nil) (fun _ _ _ _ _ => (pe_cmpR op_eq (pv 5) (pv 7) (nomark _)))) (nomark _)) (pw_or1 (pt_cmpR (op_neD hr.units) (pe_call G_bases (hr.mono (by decide)) (by rfl) g_bases F_bases.kp b_bases .nil pass0 (pa_cons (pv 6) pa_nil)) (pe_call G_due_bases (hr.mono (by decide)) (by rfl) g_due_bases F_due_bases.kp b_due_bases .nil pass0 (pa_cons (pv 5) pa_nil)) (nomark _))))) (pss_one (ps_ret pe_bl)) pss_nil)))
      (pss_one (ps_ret (pe_cmpR op_eq (pe_callB (call_repr hr gd) (by rfl) T.n_repr (by decide +kernel) (pa_cons (pe_call G_fields (hr.mono (by decide)) (by rfl) g_fields F_fields.kp b_fields .nil pass0 (pa_cons (pv 0) pa_nil)) pa_nil)) (pe_callB (call_repr hr gd) (by rfl) T.n_repr (by decide +kernel) (pa_cons (pe_call G_due_fields (hr.mono (by decide)) (by rfl) g_due_fields F_due_fields.kp b_due_fields .nil pass0 (pa_cons (pv 1) (pa_cons (pv 2) (pa_cons (pv 3) (pa_cons (pv 4) pa_nil))))) pa_nil)) (nomark _))))), ?_⟩
    refine ⟨_, rfl, l, _, rfl, SqL.of hl, for_enum (K := K) (a := l) (xs := es) (fun i σ G => ∃ u v, σ = [some (.ref l), some a, some b, some c, some d, u, v, none] ∧ Same H G) ⟨none, none, rfl, Same.refl _⟩ (fun i σ G ⟨_, _, _, s⟩ => SqL.of (s _ _ hl)) ?_ ?_⟩
    · rintro i x σ G t hxi ⟨u, v, rfl, s⟩ ht
      have lt : i < 29 := by
        have z := (List.getElem?_eq_some_iff.mp hxi).1
        omega
      obtain ⟨e, he, hex⟩ := hx.2 i lt
      rw [he] at hxi
      cases hxi
      refine ⟨t, _, rfl, .inl (.inl upd_same), rfl, _, _, rfl, _, _, rfl, rfl, ?_⟩
      have s1 : Same H (upd G t (.tup [.int (i : Nat), .ref e])) := s.trans (same_new ht)
      generalize upd G t (.tup [.int (i : Nat), .ref e]) = G1 at s1 ⊢
      refine ⟨_, rfl, e, i, _, rfl, lt, hex.same s1, fun G2 p2 s2 a2 => ?_⟩
      refine ⟨_, rfl, l, es, rfl, .inl (SqL.of (s2 _ _ (s1 _ _ hl))), (es.length : Nat), rfl, by omega, by omega, fun q hq => ?_⟩
      refine lc_range (lo := 0) (n := ((es.length : Nat) : Int).toNat) (fun j G => Same G2 G ∧ G q = some (.lst (((List.range j).map fun j => decide (i = j)).map V.bl))) ⟨same_new hq, upd_same⟩ ?_ ?_
      · rintro j G3 hj ⟨s3, aq⟩
        refine ⟨rfl, ?_⟩
        refine ⟨_, rfl, _, rfl, rfl, _, aq, ?_, ?_, ?_⟩
        · rw [List.length_map, List.length_map, List.length_range, sizeLine_eq]
          omega
        · exact fun b' o z => (upd_ne (ne_of_none z hq)).trans (s3 _ _ z)
        · rw [upd_same, List.range_succ, List.map_append, List.map_append]
          have e1 : decide (V.int (i : Nat) = V.int (0 + (j : Nat))) = decide (i = j) := decide_eq_decide.mpr ⟨fun z => by have := V.int.inj z; omega, fun z => by rw [z]; congr 1; omega⟩
          rw [e1]
          rfl
      · rintro G3 ⟨s3, aq⟩
        have n29 : ((es.length : Nat) : Int).toNat = 29 := by omega
        rw [n29] at aq
        refine ne_bools (s3 _ _ a2) aq ⟨_, rfl, iteF ?_⟩
        refine ⟨_, rfl, e, i, _, rfl, lt, hex.same (s1.trans (s2.trans s3)), fun G4 p4 s4 a4 => ?_⟩
        refine ⟨_, rfl, i, rfl, lt, fun G5 p5 s5 a5 => ?_⟩
        refine ne_bools (s5 _ _ a4) a5 ⟨_, rfl, iteF ?_⟩
        exact ⟨_, _, rfl, s1.trans (s2.trans (s3.trans (s4.trans s5)))⟩
    · rintro σ G ⟨u, v, rfl, s⟩
      refine ⟨_, rfl, l, es, a, b, c, d, rfl, s _ _ hl, hx.same s, fun G1 p1 s1 f1 a1 => ?_⟩
      have t1 := s.trans s1
      dsimp only [tNil]
      refine rep_list a1 f1 (due_all (ta.same t1) (tb.same t1) (tc.same t1) (td.same t1)) (due_nice na nb nc nd) (by show 32 ≤ 1000; decide) ?_
      refine ⟨_, rfl, _, rfl, _, rfl, _, rfl, a, b, c, d, rfl, fun G2 p2 s2 f2 a2 => ?_⟩
      have t2 := t1.trans s2
      dsimp only [tNil]
      refine rep_list a2 f2 (due_all (ta.same t2) (tb.same t2) (tc.same t2) (td.same t2)) (due_nice na nb nc nd) (by show 32 ≤ 1000; decide) ?_
      refine ⟨rfl, ?_⟩
      rw [decide_eq_true rfl]
      exact k _ t2
end
end K11

set_option Elab.async false
set_option linter.all false
set_option maxRecDepth 100000
set_option maxHeartbeats 8000000
namespace K11
open PySem PySem.Spec L2 PSG
open PyProof.Rows (IntsAre AllBare)

theorem four {l : List V} (h : l.length = 4) : ∃ a b c d, l = [a, b, c, d] := match l, h with | [a, b, c, d], _ => ⟨a, b, c, d, rfl⟩
section
variable {P : Program} {w : World} {K : PySem.W.Frag} {mg : Str → Option Value} {base : Heap}
def spLaw (K : PySem.W.Frag) : Sp := fun vs H Q _ => ∃ (a : Addr) (ns : List Int), vs = [.ref a] ∧ SqL K H a (ns.map V.int) ∧ ns.length ≤ 63 ∧ ∀ H', Q (.bl true) H'
set_option maxHeartbeats 40000000 in
theorem ok_law {f fR fT fP fN fY : Addr} {C : Nat → Addr} {fd dR dT dP dN dY : FuncData} (F : Fun K "law" "law" s_law f fd) (T : Blt mg)
    (F_rng : Fun K "_law_rng" "_law_rng" s__law_rng fR dR) (b_rng : Binds K dR ["_law_script", "_law_k"] []) (g_rng : mg "_law_rng" = some (.ref fR))
    (F_thing : Fun K "_law_thing" "_law_thing" s__law_thing fT dT) (b_thing : Binds K dT ["_law_rng_here"] []) (g_thing : mg "_law_thing" = some (.ref fT)) (G_thing : FnOk P w K mg base CX0 3 fT dT ["_law_rng_here"] spThing)
    (F_pos : Fun K "_law_by_position" "_law_by_position" s__law_by_position fP dP) (b_pos : Binds K dP ["_law_a", "_law_b", "_law_c", "_law_d"] []) (g_pos : mg "_law_by_position" = some (.ref fP)) (G_pos : FnOk P w K mg base CX0 3 fP dP ["_law_a", "_law_b", "_law_c", "_law_d"] (spAll C))
    (F_nam : Fun K "_law_by_name" "_law_by_name" s__law_by_name fN dN) (b_nam : Binds K dN ["_law_a", "_law_b", "_law_c", "_law_d"] []) (g_nam : mg "_law_by_name" = some (.ref fN)) (G_nam : FnOk P w K mg base CX0 3 fN dN ["_law_a", "_law_b", "_law_c", "_law_d"] (spAll C))
    (F_right : Fun K "_law_right" "_law_right" s__law_right fY dY) (b_right : Binds K dY ["_law_some", "_law_a", "_law_b", "_law_c", "_law_d"] []) (g_right : mg "_law_right" = some (.ref fY))
    (G_right : FnG P w K mg base CX0 2 fY dY ["_law_some", "_law_a", "_law_b", "_law_c", "_law_d"] (spRight C)) : FnG P w K mg base CX0 4 f fd ["_law_script"] (spLaw K) := by
  have sc := sc_law
  have G_rng : FnOk P w K mg base CX0 1 fR dR ["_law_script", "_law_k"] (spRng K) := ok_rng F_rng T
  refine Fun.okG F sc (fun vs H Q E h => ?_) (fun cdv B up s H vs Q E hr gd h => ?_)
  · obtain ⟨a, ns, rfl, _⟩ := h
    rfl
  · obtain ⟨a, ns, rfl, hS, hlen, k⟩ := h
    refine ⟨_, (pss_cons (ps_for PassesOwn.never (by rfl) (pi_range1 (by rfl) T.n_range (pa_cons (pe_callB (call_max2 rfl) (by rfl) T.n_max (by decide +kernel) (pa_cons pe_int (pa_cons (pe_callB (call_min2 rfl) (by rfl) T.n_min (by decide +kernel) (pa_cons (pe_callB call_len_seq (by rfl) T.n_len PySem.boot_len (pa_cons (pv 0) pa_nil)) (pa_cons pe_int pa_nil))) pa_nil))) pa_nil)) (pg_name (i := 1) sc.nd rfl (.inl rfl)) (pss_cons (ps_set (i := 2) sc.nd rfl (.inr rfl) (pe_call G_rng (hr.mono (by decide)) (by rfl) g_rng F_rng.kp b_rng .nil pass0 (pa_cons (pv 0) (pa_cons (pv 1) pa_nil))))
      (pss_cons (ps_asg (pe_lc (own := [("_law_turn", 9)]) (g := gName 9) (tt := tYes) (by rfl) sc.nd (pi_range1 (by rfl) T.n_range (pa_cons pe_int pa_nil)) (blkOk_by (own := [("_law_turn", 9)]) (N := ["_law_script", "_law_k", "_law_rng_here", "_law_a", "_law_b", "_law_c", "_law_d", "_law_some", "_law_others", "_law_turn"]) (sc := defScope s_law) (by decide +kernel)) (fun _ _ _ _ _ => pg_name (i := 9) sc.nd rfl (Or.inl rfl)) (fun _ _ _ _ _ => pts_nil) (fun _ _ _ _ _ => (pe_call G_thing (hr.mono (by decide)) (by rfl) g_thing F_thing.kp b_thing .nil pass0 (pa_cons (pv 2) pa_nil)))) (pg_lst (by rfl) (pgs_cons (pg_name (i := 3) sc.nd rfl (.inl rfl)) (pgs_cons (pg_name (i := 4) sc.nd rfl (.inl rfl)) (pgs_cons (pg_name (i := 5) sc.nd rfl (.inl rfl)) (pgs_cons (pg_name (i := 6) sc.nd rfl (.inl rfl)) pgs_nil))))))
      (pss_cons (ps_par (i := 7) (j := 8) (by rfl) sc.nd rfl rfl (by decide) rfl rfl (pa_cons (pe_call G_pos (hr.mono (by decide)) (by rfl) g_pos F_pos.kp b_pos .nil pass0 (pa_cons (pv 3) (pa_cons (pv 4) (pa_cons (pv 5) (pa_cons (pv 6) pa_nil))))) (pa_cons (pe_call G_nam (hr.mono (by decide)) (by rfl) g_nam F_nam.kp b_nam .nil pass0 (pa_cons (pv 6) (pa_cons (pv 5) (pa_cons (pv 4) (pa_cons (pv 3) pa_nil))))) pa_nil)) (by rfl))
      (pss_cons (ps_if (PW.pt (pw_or (pt_not (pt_val (pe_callG G_right (hr.mono (by decide)) gd (by rfl) g_right F_right.kp b_right .nil pass0 (pa_cons (pv 7) (pa_cons (pv 3) (pa_cons (pv 4) (pa_cons (pv 5) (pa_cons (pv 6) pa_nil)))))))) (pw_or1 (pt_not (pt_val (pe_callG G_right (hr.mono (by decide)) gd (by rfl) g_right F_right.kp b_right .nil pass0 (pa_cons (pv 8) (pa_cons (pv 6) (pa_cons (pv 5) (pa_cons (pv 4) (pa_cons (pv 3) pa_nil))))))))))) (pss_one (ps_ret pe_bl)) pss_nil)
      (pss_one (ps_if (pt_not (pt_val (pe_callG G_right (hr.mono (by decide)) gd (by rfl) g_right F_right.kp b_right .nil pass0 (pa_cons (pe_call G_nam (hr.mono (by decide)) (by rfl) g_nam F_nam.kp b_nam .nil pass0 (pa_cons (pv 3) (pa_cons (pv 4) (pa_cons (pv 5) (pa_cons (pv 6) pa_nil))))) (pa_cons (pv 3) (pa_cons (pv 4) (pa_cons (pv 5) (pa_cons (pv 6) pa_nil)))))))) (pss_one (ps_ret pe_bl)) pss_nil)))))))
      (pss_one (ps_ret pe_bl))), ?_⟩
    refine ⟨_, rfl, a, _, rfl, .inl hS, _, _, rfl, _, _, rfl, _, rfl, ?_, ?_, for_range (lo := 0) (fun i σ G => ∃ u1 u2 u3 u4 u5 u6 u7 u8, σ = [some (.ref a), u1, u2, u3, u4, u5, u6, u7, u8, none] ∧ Same H G) ⟨none, none, none, none, none, none, none, none, rfl, Same.refl _⟩ ?_ ?_⟩
    · split <;> split <;> omega
    · split <;> split <;> omega
    · rintro i σ G hi ⟨u1, u2, u3, u4, u5, u6, u7, u8, rfl, s0⟩
      have lt : i ≤ 1000 := by
        have z : (i : Int) < 6 := by
          have z1 : (i : Int) < _ := Int.lt_toNat.mp hi
          refine Int.lt_of_lt_of_le z1 ?_
          split <;> split <;> omega
        omega
      refine ⟨_, rfl, _, rfl, a, ns, i, (by show [V.ref a, V.int (0 + (i : Int))] = [V.ref a, V.int i]; rw [Int.zero_add]), s0.seq hS, lt, fun r x y hr0 x0 y0 y1 => ?_⟩
      have g1 : Rg (upd G r (.lst [.int x, .int y])) r := ⟨x, y, upd_same, x0, y0, y1⟩
      have s1 : Same G (upd G r (.lst [.int x, .int y])) := same_new hr0
      generalize upd G r (.lst [.int x, .int y]) = G1 at g1 s1 ⊢
      refine ⟨4, rfl, by decide, by decide, fun L hL => ?_⟩
      have nLr : L ≠ r := fun z => by
        obtain ⟨o, e⟩ := g1.some
        rw [z, e] at hL
        cases hL
      have thereL : upd G1 L (.lst []) L = some (.lst []) := upd_same
      have thereR : ∃ o, upd G1 L (.lst []) r = some o := (g1.new hL).some
      refine lc_range (lo := 0) (n := 4) (fun j G' => Rg G' r ∧ (∀ b o, b ≠ r → b ≠ L → upd G1 L (.lst []) b = some o → G' b = some o) ∧ ∃ acc ds, G' L = some (.lst acc) ∧ acc.length = j ∧ DtAll true (news (upd G1 L (.lst [])) G') acc ds ∧ ∀ d ∈ ds, Nice d)
        ⟨g1.new hL, fun b o _ _ e => e, [], [], upd_same, rfl, .nil, fun d hd => nomatch hd⟩ ?_ ?_
      · rintro j G' hj ⟨gR, keep, acc, ds, aL, la, da, nd⟩
        refine ⟨rfl, ?_⟩
        refine ⟨_, rfl, r, rfl, gR, fun v d H' g' b' hd hn => ?_⟩
        have aL' := b' _ _ nLr aL
        refine ⟨acc, aL', by rw [sizeLine_eq]; omega, ?_, fun b o n1 n2 e => (upd_ne n2).trans (b' _ _ n1 (keep _ _ n1 n2 e)), acc ++ [v], ds ++ [d], upd_same, by rw [List.length_append, la]; rfl, DtAll.append (DtAll.same ?_ da) (.cons (Dt.same ?_ hd) .nil), ?_⟩
        · obtain ⟨x', y', e, z⟩ := g'
          exact ⟨x', y', (upd_ne (Ne.symm nLr)).trans e, z⟩
        · intro b o e
          obtain ⟨h1, h2⟩ := news_of e
          have n1 : b ≠ r := fun z => by
            obtain ⟨u, hu⟩ := thereR
            rw [z, hu] at h1
            cases h1
          have n2 : b ≠ L := fun z => by
            rw [z, thereL] at h1
            cases h1
          exact news_at h1 ((upd_ne n2).trans (b' _ _ n1 h2))
        · intro b o e
          obtain ⟨h1, h2⟩ := news_of e
          have n2 : b ≠ L := fun z => by
            rw [z, aL] at h1
            cases h1
          have n1 : b ≠ r := fun z => by
            obtain ⟨u, hu⟩ := gR.some
            rw [z, hu] at h1
            cases h1
          refine news_at ?_ ((upd_ne n2).trans h2)
          cases q : upd G1 L (.lst []) b with
          | none => rfl
          | some u =>
            rw [keep _ _ n1 n2 q] at h1
            cases h1
        · intro x hx
          rcases List.mem_append.mp hx with hx | hx
          · exact nd x hx
          · rw [List.mem_singleton.mp hx]
            exact hn
      · rintro G4 ⟨gR, keep, acc, ds, aL, la, da, nd⟩
        obtain ⟨va, vb, vc, vd, rfl⟩ := four la
        obtain ⟨da', db', dc', dd', rfl, ta, tb, tc, td⟩ : ∃ p q r s, ds = [p, q, r, s] ∧ Dt true (news (upd G1 L (.lst [])) G4) va p ∧ Dt true (news (upd G1 L (.lst [])) G4) vb q ∧ Dt true (news (upd G1 L (.lst [])) G4) vc r ∧ Dt true (news (upd G1 L (.lst [])) G4) vd s :=
          match ds, da with | _, .cons h1 (.cons h2 (.cons h3 (.cons h4 .nil))) => ⟨_, _, _, _, rfl, h1, h2, h3, h4⟩
        have ta := ta.same news_sub
        have tb := tb.same news_sub
        have tc := tc.same news_sub
        have td := td.same news_sub
        have na := nd da' (by simp)
        have nb := nd db' (by simp)
        have nc := nd dc' (by simp)
        have nd := nd dd' (by simp)
        have s4 : Same G G4 := fun b o e => by
          have e1 := s1 _ _ e
          exact keep b o (ne_of_none e hr0) (ne_of_none e1 hL) ((upd_ne (ne_of_none e1 hL)).trans e1)
        refine ⟨L, _, rfl, SqL.of aL, rfl, va, _, rfl, vb, _, rfl, vc, _, rfl, vd, _, rfl, rfl, ?_⟩
        refine ⟨_, rfl, _, rfl, _, rfl, _, rfl, va, vb, vc, vd, rfl, fun G5 l5 es5 s5 a5 x5 => ?_⟩
        refine ⟨_, rfl, _, rfl, _, rfl, _, rfl, vd, vc, vb, va, rfl, fun G6 l6 es6 s6 a6 x6 => ?_⟩
        refine ⟨_, _, rfl, ?_⟩
        have t6 := s5.trans s6
        refine ⟨_, rfl, _, rfl, _, rfl, _, rfl, _, rfl, l5, es5, va, vb, vc, vd, da', db', dc', dd', rfl, s6 _ _ a5, x5.same s6, ⟨ta.same t6, tb.same t6, tc.same t6, td.same t6⟩, ⟨na, nb, nc, nd⟩, fun G7 s7 => ⟨_, rfl, iteF ?_⟩⟩
        have t7 := t6.trans s7
        refine ⟨_, rfl, _, rfl, _, rfl, _, rfl, _, rfl, l6, es6, vd, vc, vb, va, dd', dc', db', da', rfl, s7 _ _ a6, x6.same s7, ⟨td.same t7, tc.same t7, tb.same t7, ta.same t7⟩, ⟨nd, nc, nb, na⟩, fun G8 s8 => ⟨_, rfl, iteF ?_⟩⟩
        have t8 := t7.trans s8
        refine ⟨_, rfl, _, rfl, _, rfl, _, rfl, va, vb, vc, vd, rfl, fun G9 l9 es9 s9 a9 x9 => ?_⟩
        have t9 := t8.trans s9
        refine ⟨_, rfl, _, rfl, _, rfl, _, rfl, l9, es9, va, vb, vc, vd, da', db', dc', dd', rfl, a9, x9, ⟨ta.same t9, tb.same t9, tc.same t9, td.same t9⟩, ⟨na, nb, nc, nd⟩, fun G10 s10 => ⟨_, rfl, iteF ?_⟩⟩
        exact ⟨_, _, _, _, _, _, _, _, rfl, s0.trans (s4.trans (t9.trans s10))⟩
    · rintro σ G ⟨u1, u2, u3, u4, u5, u6, u7, u8, rfl, s0⟩
      exact k G
end
end K11

set_option Elab.async false
set_option linter.all false
set_option maxRecDepth 100000
set_option maxHeartbeats 8000000
namespace K11
open PySem PySem.Spec L2 PSG
open PyProof.Rows (IntsAre AllBare)

/-- what the end asks of a class, in one look -/
def look (K : PySem.W.Frag) (C f : Addr) (bmB : List Value) (newId : String) (fs : List Str) : Bool :=
  PySem.W.excInitIn K C bmB newId && (PySem.W.excOver K C bmB && (PySem.W.hasDictIn K C && (decide (PySem.W.findIn K (.ref C) "__setattr__" = some (some (.builtin "object.__setattr__"))) &&
  (decide (PySem.W.typeIn K (.ref f) = some (.type "function")) && (PySem.W.keepIn K (.ref C) && (decide (PySem.W.subIn K (.ref C) (.type "BaseException") = some true) && (decide (PySem.W.typeIn K (.ref C) = some (.type "type")) &&
  (decide (PySem.W.findIn K (.ref C) "__getattribute__" = some (some (.builtin "BaseException.__getattribute__"))) && (decide (PySem.W.findIn K (.ref C) "__getattr__" = some none) && (decide (PySem.W.findIn K (.ref C) "__class__" = some (some (.builtin "object.__class__"))) &&
  (decide (PySem.W.mroIn K C (.type "object") = some true) && fs.all fun f => decide (PySem.W.findIn K (.ref C) f = some none))))))))))))
structure Look (K : PySem.W.Frag) (C f : Addr) (bmB : List Value) (newId : String) (fs : List Str) : Prop where
  made : PySem.W.excInitIn K C bmB newId = true
  over : PySem.W.excOver K C bmB = true
  dict : PySem.W.hasDictIn K C = true
  set : PySem.W.findIn K (.ref C) "__setattr__" = some (some (.builtin "object.__setattr__"))
  fn : PySem.W.typeIn K (.ref f) = some (.type "function")
  keep : PySem.W.keepIn K (.ref C) = true
  exc : PySem.W.subIn K (.ref C) (.type "BaseException") = some true
  ty : PySem.W.typeIn K (.ref C) = some (.type "type")
  get : PySem.W.findIn K (.ref C) "__getattribute__" = some (some (.builtin "BaseException.__getattribute__"))
  get2 : PySem.W.findIn K (.ref C) "__getattr__" = some none
  cls : PySem.W.findIn K (.ref C) "__class__" = some (some (.builtin "object.__class__"))
  obj : PySem.W.mroIn K C (.type "object") = some true
  no : ∀ f ∈ fs, PySem.W.findIn K (.ref C) f = some none
theorem look_ok {K : PySem.W.Frag} {C f : Addr} {bmB : List Value} {newId : String} {fs : List Str} (h : look K C f bmB newId fs = true) : Look K C f bmB newId fs := by
  unfold look at h
  simp only [Bool.and_eq_true, decide_eq_true_eq, List.all_eq_true] at h
  obtain ⟨h1, h2, h3, h4, h5, h6, h7, h8, h9, h10, h11, h12, h13⟩ := h
  exact ⟨h1, h2, h3, h4, h5, h6, h7, h8, h9, h10, h11, h12, h13⟩
theorem Look.xk {K : PySem.W.Frag} {C f : Addr} {B newId initId : String} {bmB : List Value} {fs : List Str} (L : Look K C f bmB newId fs) (i : PySem.W.findIn K (.ref C) "__init__" = some (some (.ref f))) (fb : ExcBaseFacts B newId initId bmB)
    (sf : StoreFacts B bmB "object.__setattr__" "object") : Xk K C f B newId initId bmB := ⟨fb, sf, L.made, L.over, L.dict, L.set, i, L.fn, L.keep, L.exc, L.ty⟩
theorem Look.xc {K : PySem.W.Frag} {C f : Addr} {newId : String} {bmB : List Value} {fs : List Str} (L : Look K C f bmB newId fs) (d1 : PySem.W.specialIn K (.builtin "object.__class__") "__get__" = some (some (.builtin "getset_descriptor.__get__")))
    (d2 : PySem.W.takesIn K (.builtin "object.__class__") = some true) : PySem.W.XcC K C := ⟨L.get, L.get2, L.exc, L.dict, L.cls, d1, d2, L.obj⟩
/-- all classes against each other, in one look -/
def kits (K : PySem.W.Frag) (cs : List Addr) (D : Addr) : Bool :=
  (List.range 29).all fun i => (List.range 29).all (fun j => decide (PySem.W.kitOne K (.ref (cs.getD i 0)) (.ref (cs.getD j 0)) = some (decide (i = j)))) && (decide (PySem.W.kitOne K (.ref (cs.getD i 0)) (.ref D) = some (decide (i < 17))) &&
    (decide (PySem.W.kitOne K (.ref (cs.getD i 0)) (.type "ValueError") = some (decide (i < 17))) && (decide (PySem.W.kitOne K (.ref (cs.getD i 0)) (.type "LookupError") = some (!decide (i < 17) && decide (i < 20))) &&
    (decide (PySem.W.kitOne K (.ref (cs.getD i 0)) (.type "RuntimeError") = some (decide (20 ≤ i) && decide (i < 28))) && decide (PySem.W.kitOne K (.ref (cs.getD i 0)) (.type "ArithmeticError") = some (decide (i = 28)))))))
structure Kits (K : PySem.W.Frag) (cs : List Addr) (D : Addr) (i : Nat) : Prop where
  kit : ∀ j, j < 29 → PySem.W.kitOne K (.ref (cs.getD i 0)) (.ref (cs.getD j 0)) = some (decide (i = j))
  kp : PySem.W.kitOne K (.ref (cs.getD i 0)) (.ref D) = some (decide (i < 17))
  kv : PySem.W.kitOne K (.ref (cs.getD i 0)) (.type "ValueError") = some (decide (i < 17))
  kl : PySem.W.kitOne K (.ref (cs.getD i 0)) (.type "LookupError") = some (!decide (i < 17) && decide (i < 20))
  kr : PySem.W.kitOne K (.ref (cs.getD i 0)) (.type "RuntimeError") = some (decide (20 ≤ i) && decide (i < 28))
  ka : PySem.W.kitOne K (.ref (cs.getD i 0)) (.type "ArithmeticError") = some (decide (i = 28))
theorem kits_ok {K : PySem.W.Frag} {cs : List Addr} {D : Addr} (h : kits K cs D = true) (i : Nat) (hi : i < 29) : Kits K cs D i := by
  have q := List.all_eq_true.mp h i (List.mem_range.mpr hi)
  simp only [Bool.and_eq_true, decide_eq_true_eq, List.all_eq_true, List.mem_range] at q
  obtain ⟨h1, h2, h3, h4, h5, h6⟩ := q
  exact ⟨h1, h2, h3, h4, h5, h6⟩
section
variable {P : Program} {w : World} {K : PySem.W.Frag} {mg : Str → Option Value} {base : Heap} {C f : Addr} {fd : FuncData}
theorem ex0 (F : Fun K "__init__" "InvalidValue.__init__" si0 f fd) (g : mg "InvalidValue" = some (.ref C)) (i : PySem.W.findIn K (.ref C) "__init__" = some (some (.ref f))) (L : Look K C f [.type "ValueError", .type "Exception", .type "BaseException", .type "object"] "ValueError.__new__" ["value"]) : Ex P w K mg base "InvalidValue" C ["value"] := by
  have X := L.xk (B := "ValueError") (initId := "ValueError.__init__") i PySem.F.excBase_ValueError PySem.F.store_ValueError
  refine ⟨g, f, fd, ["self", "value"], _, _, _, _, X, oki0 F X (L.no _ (by decide +kernel)), F.binds (ps := ["self", "value"]) (fun _ _ _ _ _ _ us hl => match us, hl with | [_, _], _ => rfl), rfl, fun s u ws _ hl => ?_⟩
  obtain ⟨oc, od, kV, doc, pm, an, cdv, ct, osl, rfl, lk, hcd⟩ := F.ex
  exact match ws, hl with | [_], _ => .of_eq rfl
theorem ex1 (F : Fun K "__init__" "InvalidVector.__init__" si1 f fd) (g : mg "InvalidVector" = some (.ref C)) (i : PySem.W.findIn K (.ref C) "__init__" = some (some (.ref f))) (L : Look K C f [.type "ValueError", .type "Exception", .type "BaseException", .type "object"] "ValueError.__new__" ["value"]) : Ex P w K mg base "InvalidVector" C ["value"] := by
  have X := L.xk (B := "ValueError") (initId := "ValueError.__init__") i PySem.F.excBase_ValueError PySem.F.store_ValueError
  refine ⟨g, f, fd, ["self", "value"], _, _, _, _, X, oki1 F X (L.no _ (by decide +kernel)), F.binds (ps := ["self", "value"]) (fun _ _ _ _ _ _ us hl => match us, hl with | [_, _], _ => rfl), rfl, fun s u ws _ hl => ?_⟩
  obtain ⟨oc, od, kV, doc, pm, an, cdv, ct, osl, rfl, lk, hcd⟩ := F.ex
  exact match ws, hl with | [_], _ => .of_eq rfl
theorem ex2 (F : Fun K "__init__" "InvalidOrder.__init__" si2 f fd) (g : mg "InvalidOrder" = some (.ref C)) (i : PySem.W.findIn K (.ref C) "__init__" = some (some (.ref f))) (L : Look K C f [.type "ValueError", .type "Exception", .type "BaseException", .type "object"] "ValueError.__new__" ["position"]) : Ex P w K mg base "InvalidOrder" C ["position"] := by
  have X := L.xk (B := "ValueError") (initId := "ValueError.__init__") i PySem.F.excBase_ValueError PySem.F.store_ValueError
  refine ⟨g, f, fd, ["self", "position"], _, _, _, _, X, oki2 F X (L.no _ (by decide +kernel)), F.binds (ps := ["self", "position"]) (fun _ _ _ _ _ _ us hl => match us, hl with | [_, _], _ => rfl), rfl, fun s u ws _ hl => ?_⟩
  obtain ⟨oc, od, kV, doc, pm, an, cdv, ct, osl, rfl, lk, hcd⟩ := F.ex
  exact match ws, hl with | [_], _ => .of_eq rfl
theorem ex3 (F : Fun K "__init__" "InvalidCount.__init__" si3 f fd) (g : mg "InvalidCount" = some (.ref C)) (i : PySem.W.findIn K (.ref C) "__init__" = some (some (.ref f))) (L : Look K C f [.type "ValueError", .type "Exception", .type "BaseException", .type "object"] "ValueError.__new__" ["value"]) : Ex P w K mg base "InvalidCount" C ["value"] := by
  have X := L.xk (B := "ValueError") (initId := "ValueError.__init__") i PySem.F.excBase_ValueError PySem.F.store_ValueError
  refine ⟨g, f, fd, ["self", "value"], _, _, _, _, X, oki3 F X (L.no _ (by decide +kernel)), F.binds (ps := ["self", "value"]) (fun _ _ _ _ _ _ us hl => match us, hl with | [_, _], _ => rfl), rfl, fun s u ws _ hl => ?_⟩
  obtain ⟨oc, od, kV, doc, pm, an, cdv, ct, osl, rfl, lk, hcd⟩ := F.ex
  exact match ws, hl with | [_], _ => .of_eq rfl
theorem ex4 (F : Fun K "__init__" "InvalidName.__init__" si4 f fd) (g : mg "InvalidName" = some (.ref C)) (i : PySem.W.findIn K (.ref C) "__init__" = some (some (.ref f))) (L : Look K C f [.type "ValueError", .type "Exception", .type "BaseException", .type "object"] "ValueError.__new__" ["value"]) : Ex P w K mg base "InvalidName" C ["value"] := by
  have X := L.xk (B := "ValueError") (initId := "ValueError.__init__") i PySem.F.excBase_ValueError PySem.F.store_ValueError
  refine ⟨g, f, fd, ["self", "value"], _, _, _, _, X, oki4 F X (L.no _ (by decide +kernel)), F.binds (ps := ["self", "value"]) (fun _ _ _ _ _ _ us hl => match us, hl with | [_, _], _ => rfl), rfl, fun s u ws _ hl => ?_⟩
  obtain ⟨oc, od, kV, doc, pm, an, cdv, ct, osl, rfl, lk, hcd⟩ := F.ex
  exact match ws, hl with | [_], _ => .of_eq rfl
theorem ex5 (F : Fun K "__init__" "InvalidColumns.__init__" si5 f fd) (g : mg "InvalidColumns" = some (.ref C)) (i : PySem.W.findIn K (.ref C) "__init__" = some (some (.ref f))) (L : Look K C f [.type "ValueError", .type "Exception", .type "BaseException", .type "object"] "ValueError.__new__" ["position"]) : Ex P w K mg base "InvalidColumns" C ["position"] := by
  have X := L.xk (B := "ValueError") (initId := "ValueError.__init__") i PySem.F.excBase_ValueError PySem.F.store_ValueError
  refine ⟨g, f, fd, ["self", "position"], _, _, _, _, X, oki5 F X (L.no _ (by decide +kernel)), F.binds (ps := ["self", "position"]) (fun _ _ _ _ _ _ us hl => match us, hl with | [_, _], _ => rfl), rfl, fun s u ws _ hl => ?_⟩
  obtain ⟨oc, od, kV, doc, pm, an, cdv, ct, osl, rfl, lk, hcd⟩ := F.ex
  exact match ws, hl with | [_], _ => .of_eq rfl
theorem ex6 (F : Fun K "__init__" "InvalidRule.__init__" si6 f fd) (g : mg "InvalidRule" = some (.ref C)) (i : PySem.W.findIn K (.ref C) "__init__" = some (some (.ref f))) (L : Look K C f [.type "ValueError", .type "Exception", .type "BaseException", .type "object"] "ValueError.__new__" ["position"]) : Ex P w K mg base "InvalidRule" C ["position"] := by
  have X := L.xk (B := "ValueError") (initId := "ValueError.__init__") i PySem.F.excBase_ValueError PySem.F.store_ValueError
  refine ⟨g, f, fd, ["self", "position"], _, _, _, _, X, oki6 F X (L.no _ (by decide +kernel)), F.binds (ps := ["self", "position"]) (fun _ _ _ _ _ _ us hl => match us, hl with | [_, _], _ => rfl), rfl, fun s u ws _ hl => ?_⟩
  obtain ⟨oc, od, kV, doc, pm, an, cdv, ct, osl, rfl, lk, hcd⟩ := F.ex
  exact match ws, hl with | [_], _ => .of_eq rfl
theorem ex7 (F : Fun K "__init__" "InvalidTable.__init__" si7 f fd) (g : mg "InvalidTable" = some (.ref C)) (i : PySem.W.findIn K (.ref C) "__init__" = some (some (.ref f))) (L : Look K C f [.type "ValueError", .type "Exception", .type "BaseException", .type "object"] "ValueError.__new__" ["position"]) : Ex P w K mg base "InvalidTable" C ["position"] := by
  have X := L.xk (B := "ValueError") (initId := "ValueError.__init__") i PySem.F.excBase_ValueError PySem.F.store_ValueError
  refine ⟨g, f, fd, ["self", "position"], _, _, _, _, X, oki7 F X (L.no _ (by decide +kernel)), F.binds (ps := ["self", "position"]) (fun _ _ _ _ _ _ us hl => match us, hl with | [_, _], _ => rfl), rfl, fun s u ws _ hl => ?_⟩
  obtain ⟨oc, od, kV, doc, pm, an, cdv, ct, osl, rfl, lk, hcd⟩ := F.ex
  exact match ws, hl with | [_], _ => .of_eq rfl
theorem ex8 (F : Fun K "__init__" "InvalidRow.__init__" si8 f fd) (g : mg "InvalidRow" = some (.ref C)) (i : PySem.W.findIn K (.ref C) "__init__" = some (some (.ref f))) (L : Look K C f [.type "ValueError", .type "Exception", .type "BaseException", .type "object"] "ValueError.__new__" ["position"]) : Ex P w K mg base "InvalidRow" C ["position"] := by
  have X := L.xk (B := "ValueError") (initId := "ValueError.__init__") i PySem.F.excBase_ValueError PySem.F.store_ValueError
  refine ⟨g, f, fd, ["self", "position"], _, _, _, _, X, oki8 F X (L.no _ (by decide +kernel)), F.binds (ps := ["self", "position"]) (fun _ _ _ _ _ _ us hl => match us, hl with | [_, _], _ => rfl), rfl, fun s u ws _ hl => ?_⟩
  obtain ⟨oc, od, kV, doc, pm, an, cdv, ct, osl, rfl, lk, hcd⟩ := F.ex
  exact match ws, hl with | [_], _ => .of_eq rfl
theorem ex9 (F : Fun K "__init__" "InvalidQuery.__init__" si9 f fd) (g : mg "InvalidQuery" = some (.ref C)) (i : PySem.W.findIn K (.ref C) "__init__" = some (some (.ref f))) (L : Look K C f [.type "ValueError", .type "Exception", .type "BaseException", .type "object"] "ValueError.__new__" ["part", "position"]) : Ex P w K mg base "InvalidQuery" C ["part", "position"] := by
  have X := L.xk (B := "ValueError") (initId := "ValueError.__init__") i PySem.F.excBase_ValueError PySem.F.store_ValueError
  refine ⟨g, f, fd, ["self", "part", "position"], _, _, _, _, X, oki9 F X (L.no _ (by decide +kernel)) (L.no _ (by decide +kernel)), F.binds (ps := ["self", "part", "position"]) (fun _ _ _ _ _ _ us hl => match us, hl with | [_, _, _], _ => rfl), rfl, fun s u ws _ hl => ?_⟩
  obtain ⟨oc, od, kV, doc, pm, an, cdv, ct, osl, rfl, lk, hcd⟩ := F.ex
  exact match ws, hl with | [_, _], _ => .of_eq rfl
theorem ex10 (F : Fun K "__init__" "InvalidPlan.__init__" si10 f fd) (g : mg "InvalidPlan" = some (.ref C)) (i : PySem.W.findIn K (.ref C) "__init__" = some (some (.ref f))) (L : Look K C f [.type "ValueError", .type "Exception", .type "BaseException", .type "object"] "ValueError.__new__" ["path"]) : Ex P w K mg base "InvalidPlan" C ["path"] := by
  have X := L.xk (B := "ValueError") (initId := "ValueError.__init__") i PySem.F.excBase_ValueError PySem.F.store_ValueError
  refine ⟨g, f, fd, ["self", "path"], _, _, _, _, X, oki10 F X (L.no _ (by decide +kernel)), F.binds (ps := ["self", "path"]) (fun _ _ _ _ _ _ us hl => match us, hl with | [_, _], _ => rfl), rfl, fun s u ws _ hl => ?_⟩
  obtain ⟨oc, od, kV, doc, pm, an, cdv, ct, osl, rfl, lk, hcd⟩ := F.ex
  exact match ws, hl with | [_], _ => .of_eq rfl
theorem ex11 (F : Fun K "__init__" "InvalidQuestion.__init__" si11 f fd) (g : mg "InvalidQuestion" = some (.ref C)) (i : PySem.W.findIn K (.ref C) "__init__" = some (some (.ref f))) (L : Look K C f [.type "ValueError", .type "Exception", .type "BaseException", .type "object"] "ValueError.__new__" []) : Ex P w K mg base "InvalidQuestion" C [] := by
  have X := L.xk (B := "ValueError") (initId := "ValueError.__init__") i PySem.F.excBase_ValueError PySem.F.store_ValueError
  refine ⟨g, f, fd, ["self"], _, _, _, _, X, oki11 F X , F.binds (ps := ["self"]) (fun _ _ _ _ _ _ us hl => match us, hl with | [_], _ => rfl), rfl, fun s u ws _ hl => ?_⟩
  obtain ⟨oc, od, kV, doc, pm, an, cdv, ct, osl, rfl, lk, hcd⟩ := F.ex
  exact match ws, hl with | [], _ => .of_eq rfl
theorem ex12 (F : Fun K "__init__" "InvalidOffer.__init__" si12 f fd) (g : mg "InvalidOffer" = some (.ref C)) (i : PySem.W.findIn K (.ref C) "__init__" = some (some (.ref f))) (L : Look K C f [.type "ValueError", .type "Exception", .type "BaseException", .type "object"] "ValueError.__new__" ["position"]) : Ex P w K mg base "InvalidOffer" C ["position"] := by
  have X := L.xk (B := "ValueError") (initId := "ValueError.__init__") i PySem.F.excBase_ValueError PySem.F.store_ValueError
  refine ⟨g, f, fd, ["self", "position"], _, _, _, _, X, oki12 F X (L.no _ (by decide +kernel)), F.binds (ps := ["self", "position"]) (fun _ _ _ _ _ _ us hl => match us, hl with | [_, _], _ => rfl), rfl, fun s u ws _ hl => ?_⟩
  obtain ⟨oc, od, kV, doc, pm, an, cdv, ct, osl, rfl, lk, hcd⟩ := F.ex
  exact match ws, hl with | [_], _ => .of_eq rfl
theorem ex13 (F : Fun K "__init__" "InvalidWrite.__init__" si13 f fd) (g : mg "InvalidWrite" = some (.ref C)) (i : PySem.W.findIn K (.ref C) "__init__" = some (some (.ref f))) (L : Look K C f [.type "ValueError", .type "Exception", .type "BaseException", .type "object"] "ValueError.__new__" ["position"]) : Ex P w K mg base "InvalidWrite" C ["position"] := by
  have X := L.xk (B := "ValueError") (initId := "ValueError.__init__") i PySem.F.excBase_ValueError PySem.F.store_ValueError
  refine ⟨g, f, fd, ["self", "position"], _, _, _, _, X, oki13 F X (L.no _ (by decide +kernel)), F.binds (ps := ["self", "position"]) (fun _ _ _ _ _ _ us hl => match us, hl with | [_, _], _ => rfl), rfl, fun s u ws _ hl => ?_⟩
  obtain ⟨oc, od, kV, doc, pm, an, cdv, ct, osl, rfl, lk, hcd⟩ := F.ex
  exact match ws, hl with | [_], _ => .of_eq rfl
theorem ex14 (F : Fun K "__init__" "InvalidText.__init__" si14 f fd) (g : mg "InvalidText" = some (.ref C)) (i : PySem.W.findIn K (.ref C) "__init__" = some (some (.ref f))) (L : Look K C f [.type "ValueError", .type "Exception", .type "BaseException", .type "object"] "ValueError.__new__" ["value"]) : Ex P w K mg base "InvalidText" C ["value"] := by
  have X := L.xk (B := "ValueError") (initId := "ValueError.__init__") i PySem.F.excBase_ValueError PySem.F.store_ValueError
  refine ⟨g, f, fd, ["self", "value"], _, _, _, _, X, oki14 F X (L.no _ (by decide +kernel)), F.binds (ps := ["self", "value"]) (fun _ _ _ _ _ _ us hl => match us, hl with | [_, _], _ => rfl), rfl, fun s u ws _ hl => ?_⟩
  obtain ⟨oc, od, kV, doc, pm, an, cdv, ct, osl, rfl, lk, hcd⟩ := F.ex
  exact match ws, hl with | [_], _ => .of_eq rfl
theorem ex15 (F : Fun K "__init__" "InvalidToken.__init__" si15 f fd) (g : mg "InvalidToken" = some (.ref C)) (i : PySem.W.findIn K (.ref C) "__init__" = some (some (.ref f))) (L : Look K C f [.type "ValueError", .type "Exception", .type "BaseException", .type "object"] "ValueError.__new__" ["value"]) : Ex P w K mg base "InvalidToken" C ["value"] := by
  have X := L.xk (B := "ValueError") (initId := "ValueError.__init__") i PySem.F.excBase_ValueError PySem.F.store_ValueError
  refine ⟨g, f, fd, ["self", "value"], _, _, _, _, X, oki15 F X (L.no _ (by decide +kernel)), F.binds (ps := ["self", "value"]) (fun _ _ _ _ _ _ us hl => match us, hl with | [_, _], _ => rfl), rfl, fun s u ws _ hl => ?_⟩
  obtain ⟨oc, od, kV, doc, pm, an, cdv, ct, osl, rfl, lk, hcd⟩ := F.ex
  exact match ws, hl with | [_], _ => .of_eq rfl
theorem ex16 (F : Fun K "__init__" "InvalidCommand.__init__" si16 f fd) (g : mg "InvalidCommand" = some (.ref C)) (i : PySem.W.findIn K (.ref C) "__init__" = some (some (.ref f))) (L : Look K C f [.type "ValueError", .type "Exception", .type "BaseException", .type "object"] "ValueError.__new__" ["value"]) : Ex P w K mg base "InvalidCommand" C ["value"] := by
  have X := L.xk (B := "ValueError") (initId := "ValueError.__init__") i PySem.F.excBase_ValueError PySem.F.store_ValueError
  refine ⟨g, f, fd, ["self", "value"], _, _, _, _, X, oki16 F X (L.no _ (by decide +kernel)), F.binds (ps := ["self", "value"]) (fun _ _ _ _ _ _ us hl => match us, hl with | [_, _], _ => rfl), rfl, fun s u ws _ hl => ?_⟩
  obtain ⟨oc, od, kV, doc, pm, an, cdv, ct, osl, rfl, lk, hcd⟩ := F.ex
  exact match ws, hl with | [_], _ => .of_eq rfl
theorem ex17 (F : Fun K "__init__" "UnknownTable.__init__" si17 f fd) (g : mg "UnknownTable" = some (.ref C)) (i : PySem.W.findIn K (.ref C) "__init__" = some (some (.ref f))) (L : Look K C f [.type "LookupError", .type "Exception", .type "BaseException", .type "object"] "LookupError.__new__" ["value"]) : Ex P w K mg base "UnknownTable" C ["value"] := by
  have X := L.xk (B := "LookupError") (initId := "LookupError.__init__") i PySem.F.excBase_LookupError PySem.F.store_LookupError
  refine ⟨g, f, fd, ["self", "value"], _, _, _, _, X, oki17 F X (L.no _ (by decide +kernel)), F.binds (ps := ["self", "value"]) (fun _ _ _ _ _ _ us hl => match us, hl with | [_, _], _ => rfl), rfl, fun s u ws _ hl => ?_⟩
  obtain ⟨oc, od, kV, doc, pm, an, cdv, ct, osl, rfl, lk, hcd⟩ := F.ex
  exact match ws, hl with | [_], _ => .of_eq rfl
theorem ex18 (F : Fun K "__init__" "UnknownPlace.__init__" si18 f fd) (g : mg "UnknownPlace" = some (.ref C)) (i : PySem.W.findIn K (.ref C) "__init__" = some (some (.ref f))) (L : Look K C f [.type "LookupError", .type "Exception", .type "BaseException", .type "object"] "LookupError.__new__" ["value"]) : Ex P w K mg base "UnknownPlace" C ["value"] := by
  have X := L.xk (B := "LookupError") (initId := "LookupError.__init__") i PySem.F.excBase_LookupError PySem.F.store_LookupError
  refine ⟨g, f, fd, ["self", "value"], _, _, _, _, X, oki18 F X (L.no _ (by decide +kernel)), F.binds (ps := ["self", "value"]) (fun _ _ _ _ _ _ us hl => match us, hl with | [_, _], _ => rfl), rfl, fun s u ws _ hl => ?_⟩
  obtain ⟨oc, od, kV, doc, pm, an, cdv, ct, osl, rfl, lk, hcd⟩ := F.ex
  exact match ws, hl with | [_], _ => .of_eq rfl
theorem ex19 (F : Fun K "__init__" "UnknownName.__init__" si19 f fd) (g : mg "UnknownName" = some (.ref C)) (i : PySem.W.findIn K (.ref C) "__init__" = some (some (.ref f))) (L : Look K C f [.type "LookupError", .type "Exception", .type "BaseException", .type "object"] "LookupError.__new__" ["value"]) : Ex P w K mg base "UnknownName" C ["value"] := by
  have X := L.xk (B := "LookupError") (initId := "LookupError.__init__") i PySem.F.excBase_LookupError PySem.F.store_LookupError
  refine ⟨g, f, fd, ["self", "value"], _, _, _, _, X, oki19 F X (L.no _ (by decide +kernel)), F.binds (ps := ["self", "value"]) (fun _ _ _ _ _ _ us hl => match us, hl with | [_, _], _ => rfl), rfl, fun s u ws _ hl => ?_⟩
  obtain ⟨oc, od, kV, doc, pm, an, cdv, ct, osl, rfl, lk, hcd⟩ := F.ex
  exact match ws, hl with | [_], _ => .of_eq rfl
theorem ex20 (F : Fun K "__init__" "NameTaken.__init__" si20 f fd) (g : mg "NameTaken" = some (.ref C)) (i : PySem.W.findIn K (.ref C) "__init__" = some (some (.ref f))) (L : Look K C f [.type "RuntimeError", .type "Exception", .type "BaseException", .type "object"] "RuntimeError.__new__" ["value"]) : Ex P w K mg base "NameTaken" C ["value"] := by
  have X := L.xk (B := "RuntimeError") (initId := "RuntimeError.__init__") i PySem.F.excBase_RuntimeError PySem.F.store_RuntimeError
  refine ⟨g, f, fd, ["self", "value"], _, _, _, _, X, oki20 F X (L.no _ (by decide +kernel)), F.binds (ps := ["self", "value"]) (fun _ _ _ _ _ _ us hl => match us, hl with | [_, _], _ => rfl), rfl, fun s u ws _ hl => ?_⟩
  obtain ⟨oc, od, kV, doc, pm, an, cdv, ct, osl, rfl, lk, hcd⟩ := F.ex
  exact match ws, hl with | [_], _ => .of_eq rfl
theorem ex21 (F : Fun K "__init__" "RuleBroken.__init__" si21 f fd) (g : mg "RuleBroken" = some (.ref C)) (i : PySem.W.findIn K (.ref C) "__init__" = some (some (.ref f))) (L : Look K C f [.type "RuntimeError", .type "Exception", .type "BaseException", .type "object"] "RuntimeError.__new__" ["table", "place", "rule"]) : Ex P w K mg base "RuleBroken" C ["table", "place", "rule"] := by
  have X := L.xk (B := "RuntimeError") (initId := "RuntimeError.__init__") i PySem.F.excBase_RuntimeError PySem.F.store_RuntimeError
  refine ⟨g, f, fd, ["self", "table", "place", "rule"], _, _, _, _, X, oki21 F X (L.no _ (by decide +kernel)) (L.no _ (by decide +kernel)) (L.no _ (by decide +kernel)), F.binds (ps := ["self", "table", "place", "rule"]) (fun _ _ _ _ _ _ us hl => match us, hl with | [_, _, _, _], _ => rfl), rfl, fun s u ws _ hl => ?_⟩
  obtain ⟨oc, od, kV, doc, pm, an, cdv, ct, osl, rfl, lk, hcd⟩ := F.ex
  exact match ws, hl with | [_, _, _], _ => .of_eq rfl
theorem ex22 (F : Fun K "__init__" "PairBroken.__init__" si22 f fd) (g : mg "PairBroken" = some (.ref C)) (i : PySem.W.findIn K (.ref C) "__init__" = some (some (.ref f))) (L : Look K C f [.type "RuntimeError", .type "Exception", .type "BaseException", .type "object"] "RuntimeError.__new__" ["table", "one", "other", "rule"]) : Ex P w K mg base "PairBroken" C ["table", "one", "other", "rule"] := by
  have X := L.xk (B := "RuntimeError") (initId := "RuntimeError.__init__") i PySem.F.excBase_RuntimeError PySem.F.store_RuntimeError
  refine ⟨g, f, fd, ["self", "table", "one", "other", "rule"], _, _, _, _, X, oki22 F X (L.no _ (by decide +kernel)) (L.no _ (by decide +kernel)) (L.no _ (by decide +kernel)) (L.no _ (by decide +kernel)), F.binds (ps := ["self", "table", "one", "other", "rule"]) (fun _ _ _ _ _ _ us hl => match us, hl with | [_, _, _, _, _], _ => rfl), rfl, fun s u ws _ hl => ?_⟩
  obtain ⟨oc, od, kV, doc, pm, an, cdv, ct, osl, rfl, lk, hcd⟩ := F.ex
  exact match ws, hl with | [_, _, _, _], _ => .of_eq rfl
theorem ex23 (F : Fun K "__init__" "Unlike.__init__" si23 f fd) (g : mg "Unlike" = some (.ref C)) (i : PySem.W.findIn K (.ref C) "__init__" = some (some (.ref f))) (L : Look K C f [.type "RuntimeError", .type "Exception", .type "BaseException", .type "object"] "RuntimeError.__new__" []) : Ex P w K mg base "Unlike" C [] := by
  have X := L.xk (B := "RuntimeError") (initId := "RuntimeError.__init__") i PySem.F.excBase_RuntimeError PySem.F.store_RuntimeError
  refine ⟨g, f, fd, ["self"], _, _, _, _, X, oki23 F X , F.binds (ps := ["self"]) (fun _ _ _ _ _ _ us hl => match us, hl with | [_], _ => rfl), rfl, fun s u ws _ hl => ?_⟩
  obtain ⟨oc, od, kV, doc, pm, an, cdv, ct, osl, rfl, lk, hcd⟩ := F.ex
  exact match ws, hl with | [], _ => .of_eq rfl
theorem ex24 (F : Fun K "__init__" "OutOfOrder.__init__" si24 f fd) (g : mg "OutOfOrder" = some (.ref C)) (i : PySem.W.findIn K (.ref C) "__init__" = some (some (.ref f))) (L : Look K C f [.type "RuntimeError", .type "Exception", .type "BaseException", .type "object"] "RuntimeError.__new__" ["path"]) : Ex P w K mg base "OutOfOrder" C ["path"] := by
  have X := L.xk (B := "RuntimeError") (initId := "RuntimeError.__init__") i PySem.F.excBase_RuntimeError PySem.F.store_RuntimeError
  refine ⟨g, f, fd, ["self", "path"], _, _, _, _, X, oki24 F X (L.no _ (by decide +kernel)), F.binds (ps := ["self", "path"]) (fun _ _ _ _ _ _ us hl => match us, hl with | [_, _], _ => rfl), rfl, fun s u ws _ hl => ?_⟩
  obtain ⟨oc, od, kV, doc, pm, an, cdv, ct, osl, rfl, lk, hcd⟩ := F.ex
  exact match ws, hl with | [_], _ => .of_eq rfl
theorem ex25 (F : Fun K "__init__" "Apart.__init__" si25 f fd) (g : mg "Apart" = some (.ref C)) (i : PySem.W.findIn K (.ref C) "__init__" = some (some (.ref f))) (L : Look K C f [.type "RuntimeError", .type "Exception", .type "BaseException", .type "object"] "RuntimeError.__new__" ["path"]) : Ex P w K mg base "Apart" C ["path"] := by
  have X := L.xk (B := "RuntimeError") (initId := "RuntimeError.__init__") i PySem.F.excBase_RuntimeError PySem.F.store_RuntimeError
  refine ⟨g, f, fd, ["self", "path"], _, _, _, _, X, oki25 F X (L.no _ (by decide +kernel)), F.binds (ps := ["self", "path"]) (fun _ _ _ _ _ _ us hl => match us, hl with | [_, _], _ => rfl), rfl, fun s u ws _ hl => ?_⟩
  obtain ⟨oc, od, kV, doc, pm, an, cdv, ct, osl, rfl, lk, hcd⟩ := F.ex
  exact match ws, hl with | [_], _ => .of_eq rfl
theorem ex26 (F : Fun K "__init__" "NotServing.__init__" si26 f fd) (g : mg "NotServing" = some (.ref C)) (i : PySem.W.findIn K (.ref C) "__init__" = some (some (.ref f))) (L : Look K C f [.type "RuntimeError", .type "Exception", .type "BaseException", .type "object"] "RuntimeError.__new__" []) : Ex P w K mg base "NotServing" C [] := by
  have X := L.xk (B := "RuntimeError") (initId := "RuntimeError.__init__") i PySem.F.excBase_RuntimeError PySem.F.store_RuntimeError
  refine ⟨g, f, fd, ["self"], _, _, _, _, X, oki26 F X , F.binds (ps := ["self"]) (fun _ _ _ _ _ _ us hl => match us, hl with | [_], _ => rfl), rfl, fun s u ws _ hl => ?_⟩
  obtain ⟨oc, od, kV, doc, pm, an, cdv, ct, osl, rfl, lk, hcd⟩ := F.ex
  exact match ws, hl with | [], _ => .of_eq rfl
theorem ex27 (F : Fun K "__init__" "InUse.__init__" si27 f fd) (g : mg "InUse" = some (.ref C)) (i : PySem.W.findIn K (.ref C) "__init__" = some (some (.ref f))) (L : Look K C f [.type "RuntimeError", .type "Exception", .type "BaseException", .type "object"] "RuntimeError.__new__" []) : Ex P w K mg base "InUse" C [] := by
  have X := L.xk (B := "RuntimeError") (initId := "RuntimeError.__init__") i PySem.F.excBase_RuntimeError PySem.F.store_RuntimeError
  refine ⟨g, f, fd, ["self"], _, _, _, _, X, oki27 F X , F.binds (ps := ["self"]) (fun _ _ _ _ _ _ us hl => match us, hl with | [_], _ => rfl), rfl, fun s u ws _ hl => ?_⟩
  obtain ⟨oc, od, kV, doc, pm, an, cdv, ct, osl, rfl, lk, hcd⟩ := F.ex
  exact match ws, hl with | [], _ => .of_eq rfl
theorem ex28 (F : Fun K "__init__" "TooMany.__init__" si28 f fd) (g : mg "TooMany" = some (.ref C)) (i : PySem.W.findIn K (.ref C) "__init__" = some (some (.ref f))) (L : Look K C f [.type "ArithmeticError", .type "Exception", .type "BaseException", .type "object"] "ArithmeticError.__new__" ["kind", "limit"]) : Ex P w K mg base "TooMany" C ["kind", "limit"] := by
  have X := L.xk (B := "ArithmeticError") (initId := "ArithmeticError.__init__") i PySem.F.excBase_ArithmeticError PySem.F.store_ArithmeticError
  refine ⟨g, f, fd, ["self", "kind", "limit"], _, _, _, _, X, oki28 F X (L.no _ (by decide +kernel)) (L.no _ (by decide +kernel)), F.binds (ps := ["self", "kind", "limit"]) (fun _ _ _ _ _ _ us hl => match us, hl with | [_, _, _], _ => rfl), rfl, fun s u ws _ hl => ?_⟩
  obtain ⟨oc, od, kV, doc, pm, an, cdv, ct, osl, rfl, lk, hcd⟩ := F.ex
  exact match ws, hl with | [_, _], _ => .of_eq rfl
end
set_option maxHeartbeats 0 in
theorem all_mk {l : PySem.W.OpenLaw} {w : World} {K : PySem.W.Frag} {h : Heap} {mg : Str → Option Value} {fa C0 f0 C1 f1 C2 f2 C3 f3 C4 f4 C5 f5 C6 f6 C7 f7 C8 f8 C9 f9 C10 f10 C11 f11 C12 f12 C13 f13 C14 f14 C15 f15 C16 f16 C17 f17 C18 f18 C19 f19 C20 f20 C21 f21 C22 f22 C23 f23 C24 f24 C25 f25 C26 f26 C27 f27 C28 f28 CP fd0 fd1 fd2 fd3 fd4 fd5 fd6 fd7 fd8 fd9 fd10 fd11 fd12 : Addr} (X : K.In h) (G : h.Ns mainGlobals mg) (hfa : mg "law" = some (.ref fa))
    {od0 an0 od1 an1 od2 an2 od3 an3 od4 an4 od5 an5 od6 an6 od7 an7 od8 an8 od9 an9 od10 an10 od11 an11 od12 an12 od13 an13 od14 an14 od15 an15 od16 an16 od17 an17 od18 an18 od19 an19 od20 an20 od21 an21 od22 an22 od23 an23 od24 an24 od25 an25 od26 an26 od27 an27 od28 an28 odd0 and0 odd1 and1 odd2 and2 odd3 and3 odd4 and4 odd5 and5 odd6 and6 odd7 and7 odd8 and8 odd9 and9 odd10 and10 odd11 and11 odd12 and12 : Option Addr} {sl0 sl1 sl2 sl3 sl4 sl5 sl6 sl7 sl8 sl9 sl10 sl11 sl12 sl13 sl14 sl15 sl16 sl17 sl18 sl19 sl20 sl21 sl22 sl23 sl24 sl25 sl26 sl27 sl28 sld0 sld1 sld2 sld3 sld4 sld5 sld6 sld7 sld8 sld9 sld10 sld11 sld12 : Array (Option Value)} {oc0 kV0 dc0 pm0 cv0 ct0 oc1 kV1 dc1 pm1 cv1 ct1 oc2 kV2 dc2 pm2 cv2 ct2 oc3 kV3 dc3 pm3 cv3 ct3 oc4 kV4 dc4 pm4 cv4 ct4 oc5 kV5 dc5 pm5 cv5 ct5 oc6 kV6 dc6 pm6 cv6 ct6 oc7 kV7 dc7 pm7 cv7 ct7 oc8 kV8 dc8 pm8 cv8 ct8 oc9 kV9 dc9 pm9 cv9 ct9 oc10 kV10 dc10 pm10 cv10 ct10 oc11 kV11 dc11 pm11 cv11 ct11 oc12 kV12 dc12 pm12 cv12 ct12 oc13 kV13 dc13 pm13 cv13 ct13 oc14 kV14 dc14 pm14 cv14 ct14 oc15 kV15 dc15 pm15 cv15 ct15 oc16 kV16 dc16 pm16 cv16 ct16 oc17 kV17 dc17 pm17 cv17 ct17 oc18 kV18 dc18 pm18 cv18 ct18 oc19 kV19 dc19 pm19 cv19 ct19 oc20 kV20 dc20 pm20 cv20 ct20 oc21 kV21 dc21 pm21 cv21 ct21 oc22 kV22 dc22 pm22 cv22 ct22 oc23 kV23 dc23 pm23 cv23 ct23 oc24 kV24 dc24 pm24 cv24 ct24 oc25 kV25 dc25 pm25 cv25 ct25 oc26 kV26 dc26 pm26 cv26 ct26 oc27 kV27 dc27 pm27 cv27 ct27 oc28 kV28 dc28 pm28 cv28 ct28 ocd0 kVd0 dcd0 pmd0 cvd0 ctd0 ocd1 kVd1 dcd1 pmd1 cvd1 ctd1 ocd2 kVd2 dcd2 pmd2 cvd2 ctd2 ocd3 kVd3 dcd3 pmd3 cvd3 ctd3 ocd4 kVd4 dcd4 pmd4 cvd4 ctd4 ocd5 kVd5 dcd5 pmd5 cvd5 ctd5 ocd6 kVd6 dcd6 pmd6 cvd6 ctd6 ocd7 kVd7 dcd7 pmd7 cvd7 ctd7 ocd8 kVd8 dcd8 pmd8 cvd8 ctd8 ocd9 kVd9 dcd9 pmd9 cvd9 ctd9 ocd10 kVd10 dcd10 pmd10 cvd10 ctd10 ocd11 kVd11 dcd11 pmd11 cvd11 ctd11 ocd12 kVd12 dcd12 pmd12 cvd12 ctd12 : Value}
    (a0 : PySem.W.nsIn K mainGlobals "InvalidValue" = some (some (.ref C0)))
    (i0 : PySem.W.findIn K (.ref C0) "__init__" = some (some (.ref f0)))
    (l0 : K.lookup f0 = some ⟨oc0, od0, .func (PySem.W.fnOf "__init__" "InvalidValue.__init__" (defArgs si0) (defBody si0) (defScope si0) .none kV0 dc0 pm0 an0 cv0 ct0), sl0⟩)
    (c0 : PySem.W.codeIn K cv0 "InvalidValue.__init__" = true)
    (k0 : PySem.W.keepIn K (.ref f0) = true)
    (a1 : PySem.W.nsIn K mainGlobals "InvalidVector" = some (some (.ref C1)))
    (i1 : PySem.W.findIn K (.ref C1) "__init__" = some (some (.ref f1)))
    (l1 : K.lookup f1 = some ⟨oc1, od1, .func (PySem.W.fnOf "__init__" "InvalidVector.__init__" (defArgs si1) (defBody si1) (defScope si1) .none kV1 dc1 pm1 an1 cv1 ct1), sl1⟩)
    (c1 : PySem.W.codeIn K cv1 "InvalidVector.__init__" = true)
    (k1 : PySem.W.keepIn K (.ref f1) = true)
    (a2 : PySem.W.nsIn K mainGlobals "InvalidOrder" = some (some (.ref C2)))
    (i2 : PySem.W.findIn K (.ref C2) "__init__" = some (some (.ref f2)))
    (l2 : K.lookup f2 = some ⟨oc2, od2, .func (PySem.W.fnOf "__init__" "InvalidOrder.__init__" (defArgs si2) (defBody si2) (defScope si2) .none kV2 dc2 pm2 an2 cv2 ct2), sl2⟩)
    (c2 : PySem.W.codeIn K cv2 "InvalidOrder.__init__" = true)
    (k2 : PySem.W.keepIn K (.ref f2) = true)
    (a3 : PySem.W.nsIn K mainGlobals "InvalidCount" = some (some (.ref C3)))
    (i3 : PySem.W.findIn K (.ref C3) "__init__" = some (some (.ref f3)))
    (l3 : K.lookup f3 = some ⟨oc3, od3, .func (PySem.W.fnOf "__init__" "InvalidCount.__init__" (defArgs si3) (defBody si3) (defScope si3) .none kV3 dc3 pm3 an3 cv3 ct3), sl3⟩)
    (c3 : PySem.W.codeIn K cv3 "InvalidCount.__init__" = true)
    (k3 : PySem.W.keepIn K (.ref f3) = true)
    (a4 : PySem.W.nsIn K mainGlobals "InvalidName" = some (some (.ref C4)))
    (i4 : PySem.W.findIn K (.ref C4) "__init__" = some (some (.ref f4)))
    (l4 : K.lookup f4 = some ⟨oc4, od4, .func (PySem.W.fnOf "__init__" "InvalidName.__init__" (defArgs si4) (defBody si4) (defScope si4) .none kV4 dc4 pm4 an4 cv4 ct4), sl4⟩)
    (c4 : PySem.W.codeIn K cv4 "InvalidName.__init__" = true)
    (k4 : PySem.W.keepIn K (.ref f4) = true)
    (a5 : PySem.W.nsIn K mainGlobals "InvalidColumns" = some (some (.ref C5)))
    (i5 : PySem.W.findIn K (.ref C5) "__init__" = some (some (.ref f5)))
    (l5 : K.lookup f5 = some ⟨oc5, od5, .func (PySem.W.fnOf "__init__" "InvalidColumns.__init__" (defArgs si5) (defBody si5) (defScope si5) .none kV5 dc5 pm5 an5 cv5 ct5), sl5⟩)
    (c5 : PySem.W.codeIn K cv5 "InvalidColumns.__init__" = true)
    (k5 : PySem.W.keepIn K (.ref f5) = true)
    (a6 : PySem.W.nsIn K mainGlobals "InvalidRule" = some (some (.ref C6)))
    (i6 : PySem.W.findIn K (.ref C6) "__init__" = some (some (.ref f6)))
    (l6 : K.lookup f6 = some ⟨oc6, od6, .func (PySem.W.fnOf "__init__" "InvalidRule.__init__" (defArgs si6) (defBody si6) (defScope si6) .none kV6 dc6 pm6 an6 cv6 ct6), sl6⟩)
    (c6 : PySem.W.codeIn K cv6 "InvalidRule.__init__" = true)
    (k6 : PySem.W.keepIn K (.ref f6) = true)
    (a7 : PySem.W.nsIn K mainGlobals "InvalidTable" = some (some (.ref C7)))
    (i7 : PySem.W.findIn K (.ref C7) "__init__" = some (some (.ref f7)))
    (l7 : K.lookup f7 = some ⟨oc7, od7, .func (PySem.W.fnOf "__init__" "InvalidTable.__init__" (defArgs si7) (defBody si7) (defScope si7) .none kV7 dc7 pm7 an7 cv7 ct7), sl7⟩)
    (c7 : PySem.W.codeIn K cv7 "InvalidTable.__init__" = true)
    (k7 : PySem.W.keepIn K (.ref f7) = true)
    (a8 : PySem.W.nsIn K mainGlobals "InvalidRow" = some (some (.ref C8)))
    (i8 : PySem.W.findIn K (.ref C8) "__init__" = some (some (.ref f8)))
    (l8 : K.lookup f8 = some ⟨oc8, od8, .func (PySem.W.fnOf "__init__" "InvalidRow.__init__" (defArgs si8) (defBody si8) (defScope si8) .none kV8 dc8 pm8 an8 cv8 ct8), sl8⟩)
    (c8 : PySem.W.codeIn K cv8 "InvalidRow.__init__" = true)
    (k8 : PySem.W.keepIn K (.ref f8) = true)
    (a9 : PySem.W.nsIn K mainGlobals "InvalidQuery" = some (some (.ref C9)))
    (i9 : PySem.W.findIn K (.ref C9) "__init__" = some (some (.ref f9)))
    (l9 : K.lookup f9 = some ⟨oc9, od9, .func (PySem.W.fnOf "__init__" "InvalidQuery.__init__" (defArgs si9) (defBody si9) (defScope si9) .none kV9 dc9 pm9 an9 cv9 ct9), sl9⟩)
    (c9 : PySem.W.codeIn K cv9 "InvalidQuery.__init__" = true)
    (k9 : PySem.W.keepIn K (.ref f9) = true)
    (a10 : PySem.W.nsIn K mainGlobals "InvalidPlan" = some (some (.ref C10)))
    (i10 : PySem.W.findIn K (.ref C10) "__init__" = some (some (.ref f10)))
    (l10 : K.lookup f10 = some ⟨oc10, od10, .func (PySem.W.fnOf "__init__" "InvalidPlan.__init__" (defArgs si10) (defBody si10) (defScope si10) .none kV10 dc10 pm10 an10 cv10 ct10), sl10⟩)
    (c10 : PySem.W.codeIn K cv10 "InvalidPlan.__init__" = true)
    (k10 : PySem.W.keepIn K (.ref f10) = true)
    (a11 : PySem.W.nsIn K mainGlobals "InvalidQuestion" = some (some (.ref C11)))
    (i11 : PySem.W.findIn K (.ref C11) "__init__" = some (some (.ref f11)))
    (l11 : K.lookup f11 = some ⟨oc11, od11, .func (PySem.W.fnOf "__init__" "InvalidQuestion.__init__" (defArgs si11) (defBody si11) (defScope si11) .none kV11 dc11 pm11 an11 cv11 ct11), sl11⟩)
    (c11 : PySem.W.codeIn K cv11 "InvalidQuestion.__init__" = true)
    (k11 : PySem.W.keepIn K (.ref f11) = true)
    (a12 : PySem.W.nsIn K mainGlobals "InvalidOffer" = some (some (.ref C12)))
    (i12 : PySem.W.findIn K (.ref C12) "__init__" = some (some (.ref f12)))
    (l12 : K.lookup f12 = some ⟨oc12, od12, .func (PySem.W.fnOf "__init__" "InvalidOffer.__init__" (defArgs si12) (defBody si12) (defScope si12) .none kV12 dc12 pm12 an12 cv12 ct12), sl12⟩)
    (c12 : PySem.W.codeIn K cv12 "InvalidOffer.__init__" = true)
    (k12 : PySem.W.keepIn K (.ref f12) = true)
    (a13 : PySem.W.nsIn K mainGlobals "InvalidWrite" = some (some (.ref C13)))
    (i13 : PySem.W.findIn K (.ref C13) "__init__" = some (some (.ref f13)))
    (l13 : K.lookup f13 = some ⟨oc13, od13, .func (PySem.W.fnOf "__init__" "InvalidWrite.__init__" (defArgs si13) (defBody si13) (defScope si13) .none kV13 dc13 pm13 an13 cv13 ct13), sl13⟩)
    (c13 : PySem.W.codeIn K cv13 "InvalidWrite.__init__" = true)
    (k13 : PySem.W.keepIn K (.ref f13) = true)
    (a14 : PySem.W.nsIn K mainGlobals "InvalidText" = some (some (.ref C14)))
    (i14 : PySem.W.findIn K (.ref C14) "__init__" = some (some (.ref f14)))
    (l14 : K.lookup f14 = some ⟨oc14, od14, .func (PySem.W.fnOf "__init__" "InvalidText.__init__" (defArgs si14) (defBody si14) (defScope si14) .none kV14 dc14 pm14 an14 cv14 ct14), sl14⟩)
    (c14 : PySem.W.codeIn K cv14 "InvalidText.__init__" = true)
    (k14 : PySem.W.keepIn K (.ref f14) = true)
    (a15 : PySem.W.nsIn K mainGlobals "InvalidToken" = some (some (.ref C15)))
    (i15 : PySem.W.findIn K (.ref C15) "__init__" = some (some (.ref f15)))
    (l15 : K.lookup f15 = some ⟨oc15, od15, .func (PySem.W.fnOf "__init__" "InvalidToken.__init__" (defArgs si15) (defBody si15) (defScope si15) .none kV15 dc15 pm15 an15 cv15 ct15), sl15⟩)
    (c15 : PySem.W.codeIn K cv15 "InvalidToken.__init__" = true)
    (k15 : PySem.W.keepIn K (.ref f15) = true)
    (a16 : PySem.W.nsIn K mainGlobals "InvalidCommand" = some (some (.ref C16)))
    (i16 : PySem.W.findIn K (.ref C16) "__init__" = some (some (.ref f16)))
    (l16 : K.lookup f16 = some ⟨oc16, od16, .func (PySem.W.fnOf "__init__" "InvalidCommand.__init__" (defArgs si16) (defBody si16) (defScope si16) .none kV16 dc16 pm16 an16 cv16 ct16), sl16⟩)
    (c16 : PySem.W.codeIn K cv16 "InvalidCommand.__init__" = true)
    (k16 : PySem.W.keepIn K (.ref f16) = true)
    (a17 : PySem.W.nsIn K mainGlobals "UnknownTable" = some (some (.ref C17)))
    (i17 : PySem.W.findIn K (.ref C17) "__init__" = some (some (.ref f17)))
    (l17 : K.lookup f17 = some ⟨oc17, od17, .func (PySem.W.fnOf "__init__" "UnknownTable.__init__" (defArgs si17) (defBody si17) (defScope si17) .none kV17 dc17 pm17 an17 cv17 ct17), sl17⟩)
    (c17 : PySem.W.codeIn K cv17 "UnknownTable.__init__" = true)
    (k17 : PySem.W.keepIn K (.ref f17) = true)
    (a18 : PySem.W.nsIn K mainGlobals "UnknownPlace" = some (some (.ref C18)))
    (i18 : PySem.W.findIn K (.ref C18) "__init__" = some (some (.ref f18)))
    (l18 : K.lookup f18 = some ⟨oc18, od18, .func (PySem.W.fnOf "__init__" "UnknownPlace.__init__" (defArgs si18) (defBody si18) (defScope si18) .none kV18 dc18 pm18 an18 cv18 ct18), sl18⟩)
    (c18 : PySem.W.codeIn K cv18 "UnknownPlace.__init__" = true)
    (k18 : PySem.W.keepIn K (.ref f18) = true)
    (a19 : PySem.W.nsIn K mainGlobals "UnknownName" = some (some (.ref C19)))
    (i19 : PySem.W.findIn K (.ref C19) "__init__" = some (some (.ref f19)))
    (l19 : K.lookup f19 = some ⟨oc19, od19, .func (PySem.W.fnOf "__init__" "UnknownName.__init__" (defArgs si19) (defBody si19) (defScope si19) .none kV19 dc19 pm19 an19 cv19 ct19), sl19⟩)
    (c19 : PySem.W.codeIn K cv19 "UnknownName.__init__" = true)
    (k19 : PySem.W.keepIn K (.ref f19) = true)
    (a20 : PySem.W.nsIn K mainGlobals "NameTaken" = some (some (.ref C20)))
    (i20 : PySem.W.findIn K (.ref C20) "__init__" = some (some (.ref f20)))
    (l20 : K.lookup f20 = some ⟨oc20, od20, .func (PySem.W.fnOf "__init__" "NameTaken.__init__" (defArgs si20) (defBody si20) (defScope si20) .none kV20 dc20 pm20 an20 cv20 ct20), sl20⟩)
    (c20 : PySem.W.codeIn K cv20 "NameTaken.__init__" = true)
    (k20 : PySem.W.keepIn K (.ref f20) = true)
    (a21 : PySem.W.nsIn K mainGlobals "RuleBroken" = some (some (.ref C21)))
    (i21 : PySem.W.findIn K (.ref C21) "__init__" = some (some (.ref f21)))
    (l21 : K.lookup f21 = some ⟨oc21, od21, .func (PySem.W.fnOf "__init__" "RuleBroken.__init__" (defArgs si21) (defBody si21) (defScope si21) .none kV21 dc21 pm21 an21 cv21 ct21), sl21⟩)
    (c21 : PySem.W.codeIn K cv21 "RuleBroken.__init__" = true)
    (k21 : PySem.W.keepIn K (.ref f21) = true)
    (a22 : PySem.W.nsIn K mainGlobals "PairBroken" = some (some (.ref C22)))
    (i22 : PySem.W.findIn K (.ref C22) "__init__" = some (some (.ref f22)))
    (l22 : K.lookup f22 = some ⟨oc22, od22, .func (PySem.W.fnOf "__init__" "PairBroken.__init__" (defArgs si22) (defBody si22) (defScope si22) .none kV22 dc22 pm22 an22 cv22 ct22), sl22⟩)
    (c22 : PySem.W.codeIn K cv22 "PairBroken.__init__" = true)
    (k22 : PySem.W.keepIn K (.ref f22) = true)
    (a23 : PySem.W.nsIn K mainGlobals "Unlike" = some (some (.ref C23)))
    (i23 : PySem.W.findIn K (.ref C23) "__init__" = some (some (.ref f23)))
    (l23 : K.lookup f23 = some ⟨oc23, od23, .func (PySem.W.fnOf "__init__" "Unlike.__init__" (defArgs si23) (defBody si23) (defScope si23) .none kV23 dc23 pm23 an23 cv23 ct23), sl23⟩)
    (c23 : PySem.W.codeIn K cv23 "Unlike.__init__" = true)
    (k23 : PySem.W.keepIn K (.ref f23) = true)
    (a24 : PySem.W.nsIn K mainGlobals "OutOfOrder" = some (some (.ref C24)))
    (i24 : PySem.W.findIn K (.ref C24) "__init__" = some (some (.ref f24)))
    (l24 : K.lookup f24 = some ⟨oc24, od24, .func (PySem.W.fnOf "__init__" "OutOfOrder.__init__" (defArgs si24) (defBody si24) (defScope si24) .none kV24 dc24 pm24 an24 cv24 ct24), sl24⟩)
    (c24 : PySem.W.codeIn K cv24 "OutOfOrder.__init__" = true)
    (k24 : PySem.W.keepIn K (.ref f24) = true)
    (a25 : PySem.W.nsIn K mainGlobals "Apart" = some (some (.ref C25)))
    (i25 : PySem.W.findIn K (.ref C25) "__init__" = some (some (.ref f25)))
    (l25 : K.lookup f25 = some ⟨oc25, od25, .func (PySem.W.fnOf "__init__" "Apart.__init__" (defArgs si25) (defBody si25) (defScope si25) .none kV25 dc25 pm25 an25 cv25 ct25), sl25⟩)
    (c25 : PySem.W.codeIn K cv25 "Apart.__init__" = true)
    (k25 : PySem.W.keepIn K (.ref f25) = true)
    (a26 : PySem.W.nsIn K mainGlobals "NotServing" = some (some (.ref C26)))
    (i26 : PySem.W.findIn K (.ref C26) "__init__" = some (some (.ref f26)))
    (l26 : K.lookup f26 = some ⟨oc26, od26, .func (PySem.W.fnOf "__init__" "NotServing.__init__" (defArgs si26) (defBody si26) (defScope si26) .none kV26 dc26 pm26 an26 cv26 ct26), sl26⟩)
    (c26 : PySem.W.codeIn K cv26 "NotServing.__init__" = true)
    (k26 : PySem.W.keepIn K (.ref f26) = true)
    (a27 : PySem.W.nsIn K mainGlobals "InUse" = some (some (.ref C27)))
    (i27 : PySem.W.findIn K (.ref C27) "__init__" = some (some (.ref f27)))
    (l27 : K.lookup f27 = some ⟨oc27, od27, .func (PySem.W.fnOf "__init__" "InUse.__init__" (defArgs si27) (defBody si27) (defScope si27) .none kV27 dc27 pm27 an27 cv27 ct27), sl27⟩)
    (c27 : PySem.W.codeIn K cv27 "InUse.__init__" = true)
    (k27 : PySem.W.keepIn K (.ref f27) = true)
    (a28 : PySem.W.nsIn K mainGlobals "TooMany" = some (some (.ref C28)))
    (i28 : PySem.W.findIn K (.ref C28) "__init__" = some (some (.ref f28)))
    (l28 : K.lookup f28 = some ⟨oc28, od28, .func (PySem.W.fnOf "__init__" "TooMany.__init__" (defArgs si28) (defBody si28) (defScope si28) .none kV28 dc28 pm28 an28 cv28 ct28), sl28⟩)
    (c28 : PySem.W.codeIn K cv28 "TooMany.__init__" = true)
    (k28 : PySem.W.keepIn K (.ref f28) = true)
    (aP : PySem.W.nsIn K mainGlobals "PairError" = some (some (.ref CP)))
    (ad0 : PySem.W.nsIn K mainGlobals "_law_rng" = some (some (.ref fd0)))
    (ld0 : K.lookup fd0 = some ⟨ocd0, odd0, .func (PySem.W.fnOf "_law_rng" "_law_rng" (defArgs s__law_rng) (defBody s__law_rng) (defScope s__law_rng) .none kVd0 dcd0 pmd0 and0 cvd0 ctd0), sld0⟩)
    (cd0 : PySem.W.codeIn K cvd0 "_law_rng" = true)
    (kd0 : PySem.W.keepIn K (.ref fd0) = true)
    (ad1 : PySem.W.nsIn K mainGlobals "_law_draw" = some (some (.ref fd1)))
    (ld1 : K.lookup fd1 = some ⟨ocd1, odd1, .func (PySem.W.fnOf "_law_draw" "_law_draw" (defArgs s__law_draw) (defBody s__law_draw) (defScope s__law_draw) .none kVd1 dcd1 pmd1 and1 cvd1 ctd1), sld1⟩)
    (cd1 : PySem.W.codeIn K cvd1 "_law_draw" = true)
    (kd1 : PySem.W.keepIn K (.ref fd1) = true)
    (ad2 : PySem.W.nsIn K mainGlobals "_law_choice" = some (some (.ref fd2)))
    (ld2 : K.lookup fd2 = some ⟨ocd2, odd2, .func (PySem.W.fnOf "_law_choice" "_law_choice" (defArgs s__law_choice) (defBody s__law_choice) (defScope s__law_choice) .none kVd2 dcd2 pmd2 and2 cvd2 ctd2), sld2⟩)
    (cd2 : PySem.W.codeIn K cvd2 "_law_choice" = true)
    (kd2 : PySem.W.keepIn K (.ref fd2) = true)
    (ad3 : PySem.W.nsIn K mainGlobals "_law_thing" = some (some (.ref fd3)))
    (ld3 : K.lookup fd3 = some ⟨ocd3, odd3, .func (PySem.W.fnOf "_law_thing" "_law_thing" (defArgs s__law_thing) (defBody s__law_thing) (defScope s__law_thing) .none kVd3 dcd3 pmd3 and3 cvd3 ctd3), sld3⟩)
    (cd3 : PySem.W.codeIn K cvd3 "_law_thing" = true)
    (kd3 : PySem.W.keepIn K (.ref fd3) = true)
    (ad4 : PySem.W.nsIn K mainGlobals "_law_by_position" = some (some (.ref fd4)))
    (ld4 : K.lookup fd4 = some ⟨ocd4, odd4, .func (PySem.W.fnOf "_law_by_position" "_law_by_position" (defArgs s__law_by_position) (defBody s__law_by_position) (defScope s__law_by_position) .none kVd4 dcd4 pmd4 and4 cvd4 ctd4), sld4⟩)
    (cd4 : PySem.W.codeIn K cvd4 "_law_by_position" = true)
    (kd4 : PySem.W.keepIn K (.ref fd4) = true)
    (ad5 : PySem.W.nsIn K mainGlobals "_law_by_name" = some (some (.ref fd5)))
    (ld5 : K.lookup fd5 = some ⟨ocd5, odd5, .func (PySem.W.fnOf "_law_by_name" "_law_by_name" (defArgs s__law_by_name) (defBody s__law_by_name) (defScope s__law_by_name) .none kVd5 dcd5 pmd5 and5 cvd5 ctd5), sld5⟩)
    (cd5 : PySem.W.codeIn K cvd5 "_law_by_name" = true)
    (kd5 : PySem.W.keepIn K (.ref fd5) = true)
    (ad6 : PySem.W.nsIn K mainGlobals "_law_classes" = some (some (.ref fd6)))
    (ld6 : K.lookup fd6 = some ⟨ocd6, odd6, .func (PySem.W.fnOf "_law_classes" "_law_classes" (defArgs s__law_classes) (defBody s__law_classes) (defScope s__law_classes) .none kVd6 dcd6 pmd6 and6 cvd6 ctd6), sld6⟩)
    (cd6 : PySem.W.codeIn K cvd6 "_law_classes" = true)
    (kd6 : PySem.W.keepIn K (.ref fd6) = true)
    (ad7 : PySem.W.nsIn K mainGlobals "_law_fields" = some (some (.ref fd7)))
    (ld7 : K.lookup fd7 = some ⟨ocd7, odd7, .func (PySem.W.fnOf "_law_fields" "_law_fields" (defArgs s__law_fields) (defBody s__law_fields) (defScope s__law_fields) .none kVd7 dcd7 pmd7 and7 cvd7 ctd7), sld7⟩)
    (cd7 : PySem.W.codeIn K cvd7 "_law_fields" = true)
    (kd7 : PySem.W.keepIn K (.ref fd7) = true)
    (ad8 : PySem.W.nsIn K mainGlobals "_law_bases" = some (some (.ref fd8)))
    (ld8 : K.lookup fd8 = some ⟨ocd8, odd8, .func (PySem.W.fnOf "_law_bases" "_law_bases" (defArgs s__law_bases) (defBody s__law_bases) (defScope s__law_bases) .none kVd8 dcd8 pmd8 and8 cvd8 ctd8), sld8⟩)
    (cd8 : PySem.W.codeIn K cvd8 "_law_bases" = true)
    (kd8 : PySem.W.keepIn K (.ref fd8) = true)
    (ad9 : PySem.W.nsIn K mainGlobals "_law_due_bases" = some (some (.ref fd9)))
    (ld9 : K.lookup fd9 = some ⟨ocd9, odd9, .func (PySem.W.fnOf "_law_due_bases" "_law_due_bases" (defArgs s__law_due_bases) (defBody s__law_due_bases) (defScope s__law_due_bases) .none kVd9 dcd9 pmd9 and9 cvd9 ctd9), sld9⟩)
    (cd9 : PySem.W.codeIn K cvd9 "_law_due_bases" = true)
    (kd9 : PySem.W.keepIn K (.ref fd9) = true)
    (ad10 : PySem.W.nsIn K mainGlobals "_law_due_fields" = some (some (.ref fd10)))
    (ld10 : K.lookup fd10 = some ⟨ocd10, odd10, .func (PySem.W.fnOf "_law_due_fields" "_law_due_fields" (defArgs s__law_due_fields) (defBody s__law_due_fields) (defScope s__law_due_fields) .none kVd10 dcd10 pmd10 and10 cvd10 ctd10), sld10⟩)
    (cd10 : PySem.W.codeIn K cvd10 "_law_due_fields" = true)
    (kd10 : PySem.W.keepIn K (.ref fd10) = true)
    (ad11 : PySem.W.nsIn K mainGlobals "_law_right" = some (some (.ref fd11)))
    (ld11 : K.lookup fd11 = some ⟨ocd11, odd11, .func (PySem.W.fnOf "_law_right" "_law_right" (defArgs s__law_right) (defBody s__law_right) (defScope s__law_right) .none kVd11 dcd11 pmd11 and11 cvd11 ctd11), sld11⟩)
    (cd11 : PySem.W.codeIn K cvd11 "_law_right" = true)
    (kd11 : PySem.W.keepIn K (.ref fd11) = true)
    (ad12 : PySem.W.nsIn K mainGlobals "law" = some (some (.ref fd12)))
    (ld12 : K.lookup fd12 = some ⟨ocd12, odd12, .func (PySem.W.fnOf "law" "law" (defArgs s_law) (defBody s_law) (defScope s_law) .none kVd12 dcd12 pmd12 and12 cvd12 ctd12), sld12⟩)
    (cd12 : PySem.W.codeIn K cvd12 "law" = true)
    (kd12 : PySem.W.keepIn K (.ref fd12) = true)
    (z_len : PySem.W.nsIn K mainGlobals "len" = some none)
    (z_max : PySem.W.nsIn K mainGlobals "max" = some none)
    (z_min : PySem.W.nsIn K mainGlobals "min" = some none)
    (z_abs : PySem.W.nsIn K mainGlobals "abs" = some none)
    (z_int : PySem.W.nsIn K mainGlobals "int" = some none)
    (z_divmod : PySem.W.nsIn K mainGlobals "divmod" = some none)
    (z_range : PySem.W.nsIn K mainGlobals "range" = some none)
    (z_enumerate : PySem.W.nsIn K mainGlobals "enumerate" = some none)
    (z_isinstance : PySem.W.nsIn K mainGlobals "isinstance" = some none)
    (z_repr : PySem.W.nsIn K mainGlobals "repr" = some none)
    (z_ValueError : PySem.W.nsIn K mainGlobals "ValueError" = some none)
    (z_LookupError : PySem.W.nsIn K mainGlobals "LookupError" = some none)
    (z_RuntimeError : PySem.W.nsIn K mainGlobals "RuntimeError" = some none)
    (z_ArithmeticError : PySem.W.nsIn K mainGlobals "ArithmeticError" = some none)
    (g1 : PySem.W.specialIn K (.builtin "object.__class__") "__get__" = some (some (.builtin "getset_descriptor.__get__")))
    (g2 : PySem.W.takesIn K (.builtin "object.__class__") = some true)
    (L0 : look K C0 f0 [.type "ValueError", .type "Exception", .type "BaseException", .type "object"] "ValueError.__new__" ["value"] = true)
    (L1 : look K C1 f1 [.type "ValueError", .type "Exception", .type "BaseException", .type "object"] "ValueError.__new__" ["value"] = true)
    (L2 : look K C2 f2 [.type "ValueError", .type "Exception", .type "BaseException", .type "object"] "ValueError.__new__" ["position"] = true)
    (L3 : look K C3 f3 [.type "ValueError", .type "Exception", .type "BaseException", .type "object"] "ValueError.__new__" ["value"] = true)
    (L4 : look K C4 f4 [.type "ValueError", .type "Exception", .type "BaseException", .type "object"] "ValueError.__new__" ["value"] = true)
    (L5 : look K C5 f5 [.type "ValueError", .type "Exception", .type "BaseException", .type "object"] "ValueError.__new__" ["position"] = true)
    (L6 : look K C6 f6 [.type "ValueError", .type "Exception", .type "BaseException", .type "object"] "ValueError.__new__" ["position"] = true)
    (L7 : look K C7 f7 [.type "ValueError", .type "Exception", .type "BaseException", .type "object"] "ValueError.__new__" ["position"] = true)
    (L8 : look K C8 f8 [.type "ValueError", .type "Exception", .type "BaseException", .type "object"] "ValueError.__new__" ["position"] = true)
    (L9 : look K C9 f9 [.type "ValueError", .type "Exception", .type "BaseException", .type "object"] "ValueError.__new__" ["part", "position"] = true)
    (L10 : look K C10 f10 [.type "ValueError", .type "Exception", .type "BaseException", .type "object"] "ValueError.__new__" ["path"] = true)
    (L11 : look K C11 f11 [.type "ValueError", .type "Exception", .type "BaseException", .type "object"] "ValueError.__new__" [] = true)
    (L12 : look K C12 f12 [.type "ValueError", .type "Exception", .type "BaseException", .type "object"] "ValueError.__new__" ["position"] = true)
    (L13 : look K C13 f13 [.type "ValueError", .type "Exception", .type "BaseException", .type "object"] "ValueError.__new__" ["position"] = true)
    (L14 : look K C14 f14 [.type "ValueError", .type "Exception", .type "BaseException", .type "object"] "ValueError.__new__" ["value"] = true)
    (L15 : look K C15 f15 [.type "ValueError", .type "Exception", .type "BaseException", .type "object"] "ValueError.__new__" ["value"] = true)
    (L16 : look K C16 f16 [.type "ValueError", .type "Exception", .type "BaseException", .type "object"] "ValueError.__new__" ["value"] = true)
    (L17 : look K C17 f17 [.type "LookupError", .type "Exception", .type "BaseException", .type "object"] "LookupError.__new__" ["value"] = true)
    (L18 : look K C18 f18 [.type "LookupError", .type "Exception", .type "BaseException", .type "object"] "LookupError.__new__" ["value"] = true)
    (L19 : look K C19 f19 [.type "LookupError", .type "Exception", .type "BaseException", .type "object"] "LookupError.__new__" ["value"] = true)
    (L20 : look K C20 f20 [.type "RuntimeError", .type "Exception", .type "BaseException", .type "object"] "RuntimeError.__new__" ["value"] = true)
    (L21 : look K C21 f21 [.type "RuntimeError", .type "Exception", .type "BaseException", .type "object"] "RuntimeError.__new__" ["table", "place", "rule"] = true)
    (L22 : look K C22 f22 [.type "RuntimeError", .type "Exception", .type "BaseException", .type "object"] "RuntimeError.__new__" ["table", "one", "other", "rule"] = true)
    (L23 : look K C23 f23 [.type "RuntimeError", .type "Exception", .type "BaseException", .type "object"] "RuntimeError.__new__" [] = true)
    (L24 : look K C24 f24 [.type "RuntimeError", .type "Exception", .type "BaseException", .type "object"] "RuntimeError.__new__" ["path"] = true)
    (L25 : look K C25 f25 [.type "RuntimeError", .type "Exception", .type "BaseException", .type "object"] "RuntimeError.__new__" ["path"] = true)
    (L26 : look K C26 f26 [.type "RuntimeError", .type "Exception", .type "BaseException", .type "object"] "RuntimeError.__new__" [] = true)
    (L27 : look K C27 f27 [.type "RuntimeError", .type "Exception", .type "BaseException", .type "object"] "RuntimeError.__new__" [] = true)
    (L28 : look K C28 f28 [.type "ArithmeticError", .type "Exception", .type "BaseException", .type "object"] "ArithmeticError.__new__" ["kind", "limit"] = true)
    (kk : kits K [C0, C1, C2, C3, C4, C5, C6, C7, C8, C9, C10, C11, C12, C13, C14, C15, C16, C17, C18, C19, C20, C21, C22, C23, C24, C25, C26, C27, C28] CP = true) :
    ∃ fd : FuncData, (∀ (s : Shared) (v : Value), BindsTo s fd ⟨[v], []⟩ [("_law_script", v)]) ∧ ∀ base : Heap, K.In base → base.Ns mainGlobals mg → FnG l.prog w K mg base CX0 4 fa fd ["_law_script"] (spLaw K) := by
  have e := hfa.symm.trans (PySem.W.mg_of X G ad12)
  cases e
  have Fd0 := fun_mk (st := s__law_rng) ld0 cd0 kd0
  have bd0 := Fd0.binds (ps := ["_law_script", "_law_k"]) fun _ _ _ _ _ _ us hl => match us, hl with | [_, _], _ => rfl
  have gd0 := PySem.W.mg_of X G ad0
  have Fd1 := fun_mk (st := s__law_draw) ld1 cd1 kd1
  have bd1 := Fd1.binds (ps := ["_law_rng_here", "_law_many"]) fun _ _ _ _ _ _ us hl => match us, hl with | [_, _], _ => rfl
  have gd1 := PySem.W.mg_of X G ad1
  have Fd2 := fun_mk (st := s__law_choice) ld2 cd2 kd2
  have bd2 := Fd2.binds (ps := ["_law_rng_here", "_law_options"]) fun _ _ _ _ _ _ us hl => match us, hl with | [_, _], _ => rfl
  have gd2 := PySem.W.mg_of X G ad2
  have Fd3 := fun_mk (st := s__law_thing) ld3 cd3 kd3
  have bd3 := Fd3.binds (ps := ["_law_rng_here"]) fun _ _ _ _ _ _ us hl => match us, hl with | [_], _ => rfl
  have gd3 := PySem.W.mg_of X G ad3
  have Fd4 := fun_mk (st := s__law_by_position) ld4 cd4 kd4
  have bd4 := Fd4.binds (ps := ["_law_a", "_law_b", "_law_c", "_law_d"]) fun _ _ _ _ _ _ us hl => match us, hl with | [_, _, _, _], _ => rfl
  have gd4 := PySem.W.mg_of X G ad4
  have Fd5 := fun_mk (st := s__law_by_name) ld5 cd5 kd5
  have bd5 := Fd5.binds (ps := ["_law_a", "_law_b", "_law_c", "_law_d"]) fun _ _ _ _ _ _ us hl => match us, hl with | [_, _, _, _], _ => rfl
  have gd5 := PySem.W.mg_of X G ad5
  have Fd6 := fun_mk (st := s__law_classes) ld6 cd6 kd6
  have bd6 := Fd6.binds (ps := ["_law_e"]) fun _ _ _ _ _ _ us hl => match us, hl with | [_], _ => rfl
  have gd6 := PySem.W.mg_of X G ad6
  have Fd7 := fun_mk (st := s__law_fields) ld7 cd7 kd7
  have bd7 := Fd7.binds (ps := ["_law_some"]) fun _ _ _ _ _ _ us hl => match us, hl with | [_], _ => rfl
  have gd7 := PySem.W.mg_of X G ad7
  have Fd8 := fun_mk (st := s__law_bases) ld8 cd8 kd8
  have bd8 := Fd8.binds (ps := ["_law_e"]) fun _ _ _ _ _ _ us hl => match us, hl with | [_], _ => rfl
  have gd8 := PySem.W.mg_of X G ad8
  have Fd9 := fun_mk (st := s__law_due_bases) ld9 cd9 kd9
  have bd9 := Fd9.binds (ps := ["_law_at"]) fun _ _ _ _ _ _ us hl => match us, hl with | [_], _ => rfl
  have gd9 := PySem.W.mg_of X G ad9
  have Fd10 := fun_mk (st := s__law_due_fields) ld10 cd10 kd10
  have bd10 := Fd10.binds (ps := ["_law_a", "_law_b", "_law_c", "_law_d"]) fun _ _ _ _ _ _ us hl => match us, hl with | [_, _, _, _], _ => rfl
  have gd10 := PySem.W.mg_of X G ad10
  have Fd11 := fun_mk (st := s__law_right) ld11 cd11 kd11
  have bd11 := Fd11.binds (ps := ["_law_some", "_law_a", "_law_b", "_law_c", "_law_d"]) fun _ _ _ _ _ _ us hl => match us, hl with | [_, _, _, _, _], _ => rfl
  have gd11 := PySem.W.mg_of X G ad11
  have Fd12 := fun_mk (st := s_law) ld12 cd12 kd12
  have bd12 := Fd12.binds (ps := ["_law_script"]) fun _ _ _ _ _ _ us hl => match us, hl with | [_], _ => rfl
  have gd12 := PySem.W.mg_of X G ad12
  have T : Blt mg := ⟨PySem.W.mg_none_of X G z_len, PySem.W.mg_none_of X G z_max, PySem.W.mg_none_of X G z_min, PySem.W.mg_none_of X G z_abs, PySem.W.mg_none_of X G z_int, PySem.W.mg_none_of X G z_divmod, PySem.W.mg_none_of X G z_range, PySem.W.mg_none_of X G z_enumerate, PySem.W.mg_none_of X G z_isinstance, PySem.W.mg_none_of X G z_repr, PySem.W.mg_none_of X G z_ValueError, PySem.W.mg_none_of X G z_LookupError, PySem.W.mg_none_of X G z_RuntimeError, PySem.W.mg_none_of X G z_ArithmeticError⟩
  refine ⟨PySem.W.fnOf "law" "law" (defArgs s_law) (defBody s_law) (defScope s_law) .none kVd12 dcd12 pmd12 and12 cvd12 ctd12, fun s v => .of_eq rfl, fun base _ _ => ?_⟩
  have L : Laws l.prog w K mg base (fun i => ([C0, C1, C2, C3, C4, C5, C6, C7, C8, C9, C10, C11, C12, C13, C14, C15, C16, C17, C18, C19, C20, C21, C22, C23, C24, C25, C26, C27, C28] : List Addr).getD i 0) CP := {
    e0 := ex0 (fun_mk (st := si0) l0 c0 k0) (PySem.W.mg_of X G a0) i0 (look_ok L0)
    e1 := ex1 (fun_mk (st := si1) l1 c1 k1) (PySem.W.mg_of X G a1) i1 (look_ok L1)
    e2 := ex2 (fun_mk (st := si2) l2 c2 k2) (PySem.W.mg_of X G a2) i2 (look_ok L2)
    e3 := ex3 (fun_mk (st := si3) l3 c3 k3) (PySem.W.mg_of X G a3) i3 (look_ok L3)
    e4 := ex4 (fun_mk (st := si4) l4 c4 k4) (PySem.W.mg_of X G a4) i4 (look_ok L4)
    e5 := ex5 (fun_mk (st := si5) l5 c5 k5) (PySem.W.mg_of X G a5) i5 (look_ok L5)
    e6 := ex6 (fun_mk (st := si6) l6 c6 k6) (PySem.W.mg_of X G a6) i6 (look_ok L6)
    e7 := ex7 (fun_mk (st := si7) l7 c7 k7) (PySem.W.mg_of X G a7) i7 (look_ok L7)
    e8 := ex8 (fun_mk (st := si8) l8 c8 k8) (PySem.W.mg_of X G a8) i8 (look_ok L8)
    e9 := ex9 (fun_mk (st := si9) l9 c9 k9) (PySem.W.mg_of X G a9) i9 (look_ok L9)
    e10 := ex10 (fun_mk (st := si10) l10 c10 k10) (PySem.W.mg_of X G a10) i10 (look_ok L10)
    e11 := ex11 (fun_mk (st := si11) l11 c11 k11) (PySem.W.mg_of X G a11) i11 (look_ok L11)
    e12 := ex12 (fun_mk (st := si12) l12 c12 k12) (PySem.W.mg_of X G a12) i12 (look_ok L12)
    e13 := ex13 (fun_mk (st := si13) l13 c13 k13) (PySem.W.mg_of X G a13) i13 (look_ok L13)
    e14 := ex14 (fun_mk (st := si14) l14 c14 k14) (PySem.W.mg_of X G a14) i14 (look_ok L14)
    e15 := ex15 (fun_mk (st := si15) l15 c15 k15) (PySem.W.mg_of X G a15) i15 (look_ok L15)
    e16 := ex16 (fun_mk (st := si16) l16 c16 k16) (PySem.W.mg_of X G a16) i16 (look_ok L16)
    e17 := ex17 (fun_mk (st := si17) l17 c17 k17) (PySem.W.mg_of X G a17) i17 (look_ok L17)
    e18 := ex18 (fun_mk (st := si18) l18 c18 k18) (PySem.W.mg_of X G a18) i18 (look_ok L18)
    e19 := ex19 (fun_mk (st := si19) l19 c19 k19) (PySem.W.mg_of X G a19) i19 (look_ok L19)
    e20 := ex20 (fun_mk (st := si20) l20 c20 k20) (PySem.W.mg_of X G a20) i20 (look_ok L20)
    e21 := ex21 (fun_mk (st := si21) l21 c21 k21) (PySem.W.mg_of X G a21) i21 (look_ok L21)
    e22 := ex22 (fun_mk (st := si22) l22 c22 k22) (PySem.W.mg_of X G a22) i22 (look_ok L22)
    e23 := ex23 (fun_mk (st := si23) l23 c23 k23) (PySem.W.mg_of X G a23) i23 (look_ok L23)
    e24 := ex24 (fun_mk (st := si24) l24 c24 k24) (PySem.W.mg_of X G a24) i24 (look_ok L24)
    e25 := ex25 (fun_mk (st := si25) l25 c25 k25) (PySem.W.mg_of X G a25) i25 (look_ok L25)
    e26 := ex26 (fun_mk (st := si26) l26 c26 k26) (PySem.W.mg_of X G a26) i26 (look_ok L26)
    e27 := ex27 (fun_mk (st := si27) l27 c27 k27) (PySem.W.mg_of X G a27) i27 (look_ok L27)
    e28 := ex28 (fun_mk (st := si28) l28 c28 k28) (PySem.W.mg_of X G a28) i28 (look_ok L28)
    pair := PySem.W.mg_of X G aP
    x := fun i hi => match i, hi with
      | 0, _ => (look_ok L0).xc g1 g2
      | 1, _ => (look_ok L1).xc g1 g2
      | 2, _ => (look_ok L2).xc g1 g2
      | 3, _ => (look_ok L3).xc g1 g2
      | 4, _ => (look_ok L4).xc g1 g2
      | 5, _ => (look_ok L5).xc g1 g2
      | 6, _ => (look_ok L6).xc g1 g2
      | 7, _ => (look_ok L7).xc g1 g2
      | 8, _ => (look_ok L8).xc g1 g2
      | 9, _ => (look_ok L9).xc g1 g2
      | 10, _ => (look_ok L10).xc g1 g2
      | 11, _ => (look_ok L11).xc g1 g2
      | 12, _ => (look_ok L12).xc g1 g2
      | 13, _ => (look_ok L13).xc g1 g2
      | 14, _ => (look_ok L14).xc g1 g2
      | 15, _ => (look_ok L15).xc g1 g2
      | 16, _ => (look_ok L16).xc g1 g2
      | 17, _ => (look_ok L17).xc g1 g2
      | 18, _ => (look_ok L18).xc g1 g2
      | 19, _ => (look_ok L19).xc g1 g2
      | 20, _ => (look_ok L20).xc g1 g2
      | 21, _ => (look_ok L21).xc g1 g2
      | 22, _ => (look_ok L22).xc g1 g2
      | 23, _ => (look_ok L23).xc g1 g2
      | 24, _ => (look_ok L24).xc g1 g2
      | 25, _ => (look_ok L25).xc g1 g2
      | 26, _ => (look_ok L26).xc g1 g2
      | 27, _ => (look_ok L27).xc g1 g2
      | 28, _ => (look_ok L28).xc g1 g2
      | i + 29, hi => absurd hi (by omega)
    no := fun i hi => match i, hi with
      | 0, _ => (look_ok L0).no
      | 1, _ => (look_ok L1).no
      | 2, _ => (look_ok L2).no
      | 3, _ => (look_ok L3).no
      | 4, _ => (look_ok L4).no
      | 5, _ => (look_ok L5).no
      | 6, _ => (look_ok L6).no
      | 7, _ => (look_ok L7).no
      | 8, _ => (look_ok L8).no
      | 9, _ => (look_ok L9).no
      | 10, _ => (look_ok L10).no
      | 11, _ => (look_ok L11).no
      | 12, _ => (look_ok L12).no
      | 13, _ => (look_ok L13).no
      | 14, _ => (look_ok L14).no
      | 15, _ => (look_ok L15).no
      | 16, _ => (look_ok L16).no
      | 17, _ => (look_ok L17).no
      | 18, _ => (look_ok L18).no
      | 19, _ => (look_ok L19).no
      | 20, _ => (look_ok L20).no
      | 21, _ => (look_ok L21).no
      | 22, _ => (look_ok L22).no
      | 23, _ => (look_ok L23).no
      | 24, _ => (look_ok L24).no
      | 25, _ => (look_ok L25).no
      | 26, _ => (look_ok L26).no
      | 27, _ => (look_ok L27).no
      | 28, _ => (look_ok L28).no
      | i + 29, hi => absurd hi (by omega)
    kit := fun i j hi hj => (kits_ok kk i hi).kit j hj
    kp := fun i hi => (kits_ok kk i hi).kp
    kv := fun i hi => (kits_ok kk i hi).kv
    kl := fun i hi => (kits_ok kk i hi).kl
    kr := fun i hi => (kits_ok kk i hi).kr
    ka := fun i hi => (kits_ok kk i hi).ka }
  have Gth := ok_thing (P := l.prog) (w := w) (base := base) Fd3 T Fd1 bd1 gd1 Fd2 bd2 gd2
  have Gpos := ok_pos Fd4 L
  have Gnam := ok_nam Fd5 L
  have Gri := ok_right Fd11 T L Fd6 bd6 gd6 Fd8 bd8 gd8 Fd9 bd9 gd9 Fd7 bd7 gd7 Fd10 bd10 gd10
  exact ok_law Fd12 T Fd0 bd0 gd0 Fd3 bd3 gd3 Gth Fd4 bd4 gd4 Gpos Fd5 bd5 gd5 Gnam Fd11 bd11 gd11 Gri
end K11

set_option Elab.async false
set_option maxRecDepth 100000
set_option maxHeartbeats 0
section
open PySem PySem.W PyProof.Rows
open_top head_k11 for PySem.Challenge.rw_pairsigns_k11_errors_created
end
open PySem PySem.W PyProof.Rows
set_option maxRecDepth 100000 in
set_option maxHeartbeats 0 in
theorem PySem.Challenge.cw_pairsigns_k11_errors_created_holds : PySem.Challenge.rw_pairsigns_k11_errors_created.Holds :=
  head_k11 (by
  k_fill
  refine PSG.walkG (l := PySem.Challenge.rw_pairsigns_k11_errors_created) (m := 63) (n := 4) (x := "_law_script") (CT := fun _ => L2.CX0) (sp := fun w => K11.spLaw _) rfl (by decide) rfl ⟨rfl, by decide, by decide⟩ (fun w h Y => PySem.W.kIn_of Y) ?F (fun _ _ a ns hl _ hS => ⟨a, ns, rfl, hS, hl, fun _ => rfl⟩) (fun _ _ _ _ _ h => h)
  case F =>
    intro w mg fa h KX G hmg
    refine' K11.all_mk KX G hmg ?a0 ?i0 ?l0 ?c0 ?k0 ?a1 ?i1 ?l1 ?c1 ?k1 ?a2 ?i2 ?l2 ?c2 ?k2 ?a3 ?i3 ?l3 ?c3 ?k3 ?a4 ?i4 ?l4 ?c4 ?k4 ?a5 ?i5 ?l5 ?c5 ?k5 ?a6 ?i6 ?l6 ?c6 ?k6 ?a7 ?i7 ?l7 ?c7 ?k7 ?a8 ?i8 ?l8 ?c8 ?k8 ?a9 ?i9 ?l9 ?c9 ?k9 ?a10 ?i10 ?l10 ?c10 ?k10 ?a11 ?i11 ?l11 ?c11 ?k11 ?a12 ?i12 ?l12 ?c12 ?k12 ?a13 ?i13 ?l13 ?c13 ?k13 ?a14 ?i14 ?l14 ?c14 ?k14 ?a15 ?i15 ?l15 ?c15 ?k15 ?a16 ?i16 ?l16 ?c16 ?k16 ?a17 ?i17 ?l17 ?c17 ?k17 ?a18 ?i18 ?l18 ?c18 ?k18 ?a19 ?i19 ?l19 ?c19 ?k19 ?a20 ?i20 ?l20 ?c20 ?k20 ?a21 ?i21 ?l21 ?c21 ?k21 ?a22 ?i22 ?l22 ?c22 ?k22 ?a23 ?i23 ?l23 ?c23 ?k23 ?a24 ?i24 ?l24 ?c24 ?k24 ?a25 ?i25 ?l25 ?c25 ?k25 ?a26 ?i26 ?l26 ?c26 ?k26 ?a27 ?i27 ?l27 ?c27 ?k27 ?a28 ?i28 ?l28 ?c28 ?k28 ?aP ?ad0 ?ld0 ?cd0 ?kd0 ?ad1 ?ld1 ?cd1 ?kd1 ?ad2 ?ld2 ?cd2 ?kd2 ?ad3 ?ld3 ?cd3 ?kd3 ?ad4 ?ld4 ?cd4 ?kd4 ?ad5 ?ld5 ?cd5 ?kd5 ?ad6 ?ld6 ?cd6 ?kd6 ?ad7 ?ld7 ?cd7 ?kd7 ?ad8 ?ld8 ?cd8 ?kd8 ?ad9 ?ld9 ?cd9 ?kd9 ?ad10 ?ld10 ?cd10 ?kd10 ?ad11 ?ld11 ?cd11 ?kd11 ?ad12 ?ld12 ?cd12 ?kd12 ?z_len ?z_max ?z_min ?z_abs ?z_int ?z_divmod ?z_range ?z_enumerate ?z_isinstance ?z_repr ?z_ValueError ?z_LookupError ?z_RuntimeError ?z_ArithmeticError ?g1 ?g2 ?L0 ?L1 ?L2 ?L3 ?L4 ?L5 ?L6 ?L7 ?L8 ?L9 ?L10 ?L11 ?L12 ?L13 ?L14 ?L15 ?L16 ?L17 ?L18 ?L19 ?L20 ?L21 ?L22 ?L23 ?L24 ?L25 ?L26 ?L27 ?L28 ?kk
    (case a0 => k_is)
    (case i0 => k_is)
    (case l0 => k_is)
    (case c0 => k_is)
    (case k0 => k_is)
    (case a1 => k_is)
    (case i1 => k_is)
    (case l1 => k_is)
    (case c1 => k_is)
    (case k1 => k_is)
    (case a2 => k_is)
    (case i2 => k_is)
    (case l2 => k_is)
    (case c2 => k_is)
    (case k2 => k_is)
    (case a3 => k_is)
    (case i3 => k_is)
    (case l3 => k_is)
    (case c3 => k_is)
    (case k3 => k_is)
    (case a4 => k_is)
    (case i4 => k_is)
    (case l4 => k_is)
    (case c4 => k_is)
    (case k4 => k_is)
    (case a5 => k_is)
    (case i5 => k_is)
    (case l5 => k_is)
    (case c5 => k_is)
    (case k5 => k_is)
    (case a6 => k_is)
    (case i6 => k_is)
    (case l6 => k_is)
    (case c6 => k_is)
    (case k6 => k_is)
    (case a7 => k_is)
    (case i7 => k_is)
    (case l7 => k_is)
    (case c7 => k_is)
    (case k7 => k_is)
    (case a8 => k_is)
    (case i8 => k_is)
    (case l8 => k_is)
    (case c8 => k_is)
    (case k8 => k_is)
    (case a9 => k_is)
    (case i9 => k_is)
    (case l9 => k_is)
    (case c9 => k_is)
    (case k9 => k_is)
    (case a10 => k_is)
    (case i10 => k_is)
    (case l10 => k_is)
    (case c10 => k_is)
    (case k10 => k_is)
    (case a11 => k_is)
    (case i11 => k_is)
    (case l11 => k_is)
    (case c11 => k_is)
    (case k11 => k_is)
    (case a12 => k_is)
    (case i12 => k_is)
    (case l12 => k_is)
    (case c12 => k_is)
    (case k12 => k_is)
    (case a13 => k_is)
    (case i13 => k_is)
    (case l13 => k_is)
    (case c13 => k_is)
    (case k13 => k_is)
    (case a14 => k_is)
    (case i14 => k_is)
    (case l14 => k_is)
    (case c14 => k_is)
    (case k14 => k_is)
    (case a15 => k_is)
    (case i15 => k_is)
    (case l15 => k_is)
    (case c15 => k_is)
    (case k15 => k_is)
    (case a16 => k_is)
    (case i16 => k_is)
    (case l16 => k_is)
    (case c16 => k_is)
    (case k16 => k_is)
    (case a17 => k_is)
    (case i17 => k_is)
    (case l17 => k_is)
    (case c17 => k_is)
    (case k17 => k_is)
    (case a18 => k_is)
    (case i18 => k_is)
    (case l18 => k_is)
    (case c18 => k_is)
    (case k18 => k_is)
    (case a19 => k_is)
    (case i19 => k_is)
    (case l19 => k_is)
    (case c19 => k_is)
    (case k19 => k_is)
    (case a20 => k_is)
    (case i20 => k_is)
    (case l20 => k_is)
    (case c20 => k_is)
    (case k20 => k_is)
    (case a21 => k_is)
    (case i21 => k_is)
    (case l21 => k_is)
    (case c21 => k_is)
    (case k21 => k_is)
    (case a22 => k_is)
    (case i22 => k_is)
    (case l22 => k_is)
    (case c22 => k_is)
    (case k22 => k_is)
    (case a23 => k_is)
    (case i23 => k_is)
    (case l23 => k_is)
    (case c23 => k_is)
    (case k23 => k_is)
    (case a24 => k_is)
    (case i24 => k_is)
    (case l24 => k_is)
    (case c24 => k_is)
    (case k24 => k_is)
    (case a25 => k_is)
    (case i25 => k_is)
    (case l25 => k_is)
    (case c25 => k_is)
    (case k25 => k_is)
    (case a26 => k_is)
    (case i26 => k_is)
    (case l26 => k_is)
    (case c26 => k_is)
    (case k26 => k_is)
    (case a27 => k_is)
    (case i27 => k_is)
    (case l27 => k_is)
    (case c27 => k_is)
    (case k27 => k_is)
    (case a28 => k_is)
    (case i28 => k_is)
    (case l28 => k_is)
    (case c28 => k_is)
    (case k28 => k_is)
    (case aP => k_is)
    (case ad0 => k_is)
    (case ld0 => k_is)
    (case cd0 => k_is)
    (case kd0 => k_is)
    (case ad1 => k_is)
    (case ld1 => k_is)
    (case cd1 => k_is)
    (case kd1 => k_is)
    (case ad2 => k_is)
    (case ld2 => k_is)
    (case cd2 => k_is)
    (case kd2 => k_is)
    (case ad3 => k_is)
    (case ld3 => k_is)
    (case cd3 => k_is)
    (case kd3 => k_is)
    (case ad4 => k_is)
    (case ld4 => k_is)
    (case cd4 => k_is)
    (case kd4 => k_is)
    (case ad5 => k_is)
    (case ld5 => k_is)
    (case cd5 => k_is)
    (case kd5 => k_is)
    (case ad6 => k_is)
    (case ld6 => k_is)
    (case cd6 => k_is)
    (case kd6 => k_is)
    (case ad7 => k_is)
    (case ld7 => k_is)
    (case cd7 => k_is)
    (case kd7 => k_is)
    (case ad8 => k_is)
    (case ld8 => k_is)
    (case cd8 => k_is)
    (case kd8 => k_is)
    (case ad9 => k_is)
    (case ld9 => k_is)
    (case cd9 => k_is)
    (case kd9 => k_is)
    (case ad10 => k_is)
    (case ld10 => k_is)
    (case cd10 => k_is)
    (case kd10 => k_is)
    (case ad11 => k_is)
    (case ld11 => k_is)
    (case cd11 => k_is)
    (case kd11 => k_is)
    (case ad12 => k_is)
    (case ld12 => k_is)
    (case cd12 => k_is)
    (case kd12 => k_is)
    (case z_len => k_is)
    (case z_max => k_is)
    (case z_min => k_is)
    (case z_abs => k_is)
    (case z_int => k_is)
    (case z_divmod => k_is)
    (case z_range => k_is)
    (case z_enumerate => k_is)
    (case z_isinstance => k_is)
    (case z_repr => k_is)
    (case z_ValueError => k_is)
    (case z_LookupError => k_is)
    (case z_RuntimeError => k_is)
    (case z_ArithmeticError => k_is)
    (case g1 => k_is)
    (case g2 => k_is)
    (case L0 => kernel_rfl)
    (case L1 => kernel_rfl)
    (case L2 => kernel_rfl)
    (case L3 => kernel_rfl)
    (case L4 => kernel_rfl)
    (case L5 => kernel_rfl)
    (case L6 => kernel_rfl)
    (case L7 => kernel_rfl)
    (case L8 => kernel_rfl)
    (case L9 => kernel_rfl)
    (case L10 => kernel_rfl)
    (case L11 => kernel_rfl)
    (case L12 => kernel_rfl)
    (case L13 => kernel_rfl)
    (case L14 => kernel_rfl)
    (case L15 => kernel_rfl)
    (case L16 => kernel_rfl)
    (case L17 => kernel_rfl)
    (case L18 => kernel_rfl)
    (case L19 => kernel_rfl)
    (case L20 => kernel_rfl)
    (case L21 => kernel_rfl)
    (case L22 => kernel_rfl)
    (case L23 => kernel_rfl)
    (case L24 => kernel_rfl)
    (case L25 => kernel_rfl)
    (case L26 => kernel_rfl)
    (case L27 => kernel_rfl)
    (case L28 => kernel_rfl)
    (case kk => kernel_rfl))
