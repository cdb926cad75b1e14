import PyProof.Rows.All
import Wide.All
import OpenK.AllK
import Wide.FinOn
import HandS.Base
import HandS.Call
import HandS.List
import HandS.Comp
import HandS.Dict
import HandS.Iter
import HandS.Text
import HandS.Ends
import HandS.Exc
import HandS.ExcOwn
import HandS.TryOnly
import HandS.TryMany
import HandS.ExcInit
import HandS.ExcField
import HandS.ExcIs
import HandS.IsInst
import HandS.WideBits
import HandS.ForMost
import HandS.WordsExc
import KE.KTryMore
import KE.KExcHand
import KE.KExcInit
import HandS.Small
import HandS.SetFor
import HandS.Zip
import PyProof.Draws
import PyProof.EnumMake
import HandS.HotCalls
import HandS.ExcInitHot
import HandS.Replace
import PySem.Challenge.RW_pairsigns_k12_signs_of_values
set_option linter.all false
set_option Elab.async false
set_option linter.all false
set_option maxRecDepth 100000
set_option maxHeartbeats 4000000
namespace PSG
open PySem PySem.Spec PyProof.Rows L2
/-! ### promises of defs that know that no repr is under way -/
structure FnG (P : Program) (w : World) (K : PySem.W.Frag) (mg : Str → Option Value) (base : Heap) (CT : CXT) (n : Nat) (at_ : Addr) (fd : FuncData) (ps : List Str) (sp : Sp) : Prop where
  many : ∀ vs H Q E, sp vs H Q E → vs.length = ps.length
  goes : ∀ (B : Around) (up : List Env) (s : Shared) (H : Hp) (ar : Args) (us : List Value) (vs : List V) (Q : VK) (E : XK),
    Room n B → B.guards = some [] → Env0 P w K mg base B up s H →
    BindsTo s fd ar (ps.zip us) → Vals vs us → sp vs H Q E →
    codeAny (model P w) B (.call (.ref at_) ar) (CR CT up P w H s Q E) s
section
variable {P : Program} {w : World} {K : PySem.W.Frag} {mg : Str → Option Value} {base : Heap} {CT : CXT}
theorem FnG.of {n : Nat} {at_ : Addr} {fd : FuncData} {ps : List Str} {sp : Sp} (F : FnOk P w K mg base CT n at_ fd ps sp) : FnG P w K mg base CT n at_ fd ps sp :=
  ⟨F.len, fun B up s H ar us vs Q E r _ => F.run B up s H ar us vs Q E r⟩
theorem fnG {n : Nat} {at_ : Addr} {nm ql : Str} {pa : Arguments} {bd : List Stmt} {sc : Scope} {dv kv dc pm cv ct oc : Value} {an od : Option Addr}
    {sl : Array (Option Value)} {N ps : List Str} {sp : Sp}
    (found : K.lookup at_ = some ⟨oc, od, .func (PySem.W.fnOf nm ql pa bd sc dv kv dc pm an cv ct), sl⟩)
    (code : PySem.W.codeIn K cv ql = true) (S : FnScope N ps sc) (many : ∀ vs H Q E, sp vs H Q E → vs.length = ps.length)
    (main : ∀ (B : Around) (up : List Env) (s : Shared) (H : Hp) (vs : List V) (Q : VK) (E : XK),
      Room n (B.deeper (envOfC ql sc s.heap.objs.size at_ cv)) → B.guards = some [] → sp vs H Q E →
      ∃ t, PSs (cxOf CT P w K mg base N ql sc at_ cv B up s H E) bd t ∧ t { nx := fun _ G => Q .non G, rt := Q } (start N vs) H) :
    FnG P w K mg base CT (n + 1) at_ (PySem.W.fnOf nm ql pa bd sc dv kv dc pm an cv ct) ps sp where
  many := many
  goes := by
    intro B up s H ar us vs Q E room gd en bi va ho
    have keepB : ∀ b o, base.get? b = some o → s.heap.get? b = some o := fun b o z => (en.bs b o z).1
    have atK := en.mod.kin.keeps keepB
    refine codeAny_call_function room.depth (atK _ _ found) rfl S.co S.gen rfl (PySem.W.codeRec_of atK code) (bi _ _ _ _ ?_)
    refine wpAny_newFunctionEnv_cells S.kind (fun y hy => ?_) fun env he t1 x => ?_
    · obtain ⟨n, v⟩ := y
      cases S.par n (List.of_mem_zip hy).1 with
      | inl z => exact .inl z
      | inr z => exact .inr ⟨z, PySem.W.cellsFrom_some _ _ _ (.inl z)⟩
    · cases he
      refine ⟨(en.mod.nolimit.keeps keepB).keeps x.toInCall.keep, codeAny_func ?_⟩
      obtain ⟨t, der, rd⟩ := main B up s H vs Q E (room.deeper _) gd ho
      have J := inv_start (CX := CT) (E := E) S room.hd en (many _ _ _ _ ho) va x
      refine wpAny_mono (der.run [] t1 _ H _ J rd) ?_ fun _ _ z => z
      intro fl t2 z
      cases fl with
      | next =>
        obtain ⟨_, G, J2, q⟩ := z
        exact ⟨V.non, G, J2.os, J2.bare, J2.base, J2.hok, rfl, q⟩
      | ret u =>
        obtain ⟨v, _, G, J2, rel, q⟩ := z
        exact ⟨v, G, J2.os, J2.bare, J2.base, J2.hok, rel, q⟩
      | brk => exact (show False from z.choose_spec.choose_spec.2).elim
      | cont => exact (show False from z.choose_spec.choose_spec.2).elim
end
section
variable {X : Cx} {CT : CXT} {n : Nat} {at_ : Addr} {fd : FuncData} {ps : List Str} {sp : Sp} {dvs : List V} {ds : List Value} {E : XK} {x : Str} {p pos : Pos} {e : Expr} {es : List Expr} {t : TA}
theorem run_g {pins : List (Addr × Obj)} {σ : L2.St} {H : Hp} {s : Shared} {Q : VK} {us : List Value} {vs : List V}
    (F : FnG X.prog X.w X.K X.mg X.base CT n at_ fd ps sp) (room : Room n X.A) (gd : X.A.guards = some []) (bi : Binds X.K fd ps ds) (dv : Vals dvs ds) (pass : Passes CT X E)
    (I : Inv X pins σ H s) (va : Vals vs us) (ho : sp (vs ++ dvs) H Q E) : wpAny (model X.prog X.w) X.A (call (.ref at_) us) (EP X pins σ Q) X.xe s := by
  have va2 := va.append dv
  have many : (us ++ ds).length = ps.length := va2.length.symm.trans (F.many _ _ _ _ ho)
  refine wpAny_call (codeAny_mono (F.goes X.A X.stack s H ⟨us, []⟩ (us ++ ds) (vs ++ dvs) Q E room gd I.env0 (bi s us I.kIn many) va2 ho) ?_)
  intro r t2 z
  match r, z with
  | .error er, z => exact pass pins σ H s er t2 I z
  | .ok (.ret u), z => exact I.after z
theorem pe_callG (F : FnG X.prog X.w X.K X.mg X.base CT n at_ fd ps sp) (room : Room n X.A) (gd : X.A.guards = some []) (hg : Gl X x) (hm : X.mg x = some (.ref at_)) (kp : PySem.W.keepIn X.K (.ref at_) = true)
    (bi : Binds X.K fd ps ds) (dv : Vals dvs ds) (pass : Passes CT X E) (ha : PA X (e :: es) t) (nd : (x == ("__debug__" : Str)) = false := by decide)
    (se : starEach (e :: es) X.env = (false, eval e X.env) :: starEach es X.env := by rfl) (sn : (backTo pos (starEach es X.env)).any (·.1) = false := by rfl) :
    PE X (.Call (.Name x p) (e :: es) [] pos) (tCall sp dvs E t) where
  run := fun pins s σ H Q I ho => wpAny_Call_Name_kw (ld_glob I hg hm (PySem.W.callWith_K (h₀ := X.base) I.ok.mod.kin kp
    (thn (ha.run pos pins s σ H _ I ho) fun us s1 ⟨vs, H1, I1, r, q⟩ => ⟨I1.kIn, run_g F room gd bi dv pass I1 r q⟩) se sn) nd)
end
end PSG

set_option Elab.async false
set_option linter.all false
set_option maxRecDepth 100000
set_option maxHeartbeats 4000000
namespace PSG
open PySem PySem.Spec L2
open PyProof.Rows (IntsAre AllBare)
/-! ### data with flat dicts, and repr -/
/-- a key as data -/
def keyD : Key → PyData
  | .inl i => .int i
  | .inr x => .str x
/-- a value that is no object, as data -/
def flatD : V → Option PyData
  | .non => some .none
  | .bl b => some (.bool b)
  | .int i => some (.int i)
  | .str x => some (.str x)
  | _ => none
mutual
/-- a value that is data, all of it tracked -/
inductive Dt (far : Bool) (H : Hp) : V → PyData → Prop
  | non : Dt far H .non .none
  | bl (b : Bool) : Dt far H (.bl b) (.bool b)
  | int (i : Int) : Dt far H (.int i) (.int i)
  | str (x : Str) : Dt far H (.str x) (.str x)
  | lst {a : Addr} {xs : List V} {ds : List PyData} : H a = some (.lst xs) → (far = true → a ≠ sysModules) → DtAll far H xs ds → Dt far H (.ref a) (.list ds)
  | tup {a : Addr} {xs : List V} {ds : List PyData} : H a = some (.tup xs) → DtAll far H xs ds → Dt far H (.ref a) (.tuple ds)
  | dict {a : Addr} {kvs : List (Key × V)} {kds : List (Key × PyData)} : H a = some (.dK kvs) → Paired (fun p q => p.1 = q.1 ∧ flatD p.2 = some q.2) kvs kds →
      Dt far H (.ref a) (.dict (kds.map fun q => (keyD q.1, q.2)))
inductive DtAll (far : Bool) (H : Hp) : List V → List PyData → Prop
  | nil : DtAll far H [] []
  | cons {v : V} {vs : List V} {d : PyData} {ds : List PyData} : Dt far H v d → DtAll far H vs ds → DtAll far H (v :: vs) (d :: ds)
end
mutual
def hasList : PyData → Bool
  | .list _ => true
  | .tuple xs => hasListAll xs
  | _ => false
def hasListAll : List PyData → Bool
  | [] => false
  | x :: xs => hasList x || hasListAll xs
end
theorem flat_reads {h : Heap} {v : V} {u : Value} {d : PyData} (e : flatD v = some d) (r : RelV v u) : Reads h u d [] := by
  cases v with
  | non => cases e; cases r; exact .none
  | bl b => cases e; cases r; exact .bool b
  | int i => cases e; obtain ⟨t, rfl⟩ := r; exact .int i t
  | str x => cases e; obtain ⟨t, rfl⟩ := r; exact .str x t
  | byt _ => cases e
  | flt _ => cases e
  | ref _ => cases e
  | ty _ => cases e
theorem key_reads {h : Heap} {k : Key} {u : Value} (e : keyIs k u = true) : Reads h u (keyD k) [] := by
  rcases keyIs_shape e with ⟨i, t, rfl, rfl⟩ | ⟨x, t, rfl, rfl⟩
  · exact .int i t
  · exact .str x t
theorem dict_reads {P : Program} {w : World} {h : Heap} : ∀ {kvs : List (Key × V)} {kds : List (Key × PyData)} {vs : List (Key × Value)} {es : List DictEntry},
    Paired (fun p q => p.1 = q.1 ∧ flatD p.2 = some q.2) kvs kds → KV kvs vs → Pairs (mixKind P w) es vs →
    ReadsAll h (es.map (·.key)) ((kds.map fun q => (keyD q.1, q.2)).map (·.1)) [] ∧ ReadsAll h (es.map (·.val)) ((kds.map fun q => (keyD q.1, q.2)).map (·.2)) []
  | _, _, _, _, .nil, .nil, .nil => ⟨.nil, .nil⟩
  | _, _, _, _, .cons ⟨e1, f⟩ t1, .cons ⟨e2, r⟩ t2, .cons k v t3 => by
    obtain ⟨i1, i2⟩ := dict_reads (h := h) t1 t2 t3
    have k' : keyIs _ _ = true := k
    rw [← e2, e1] at k'
    refine ⟨ReadsAll.cons (as := []) (key_reads k') i1, ReadsAll.cons (as := []) ?_ i2⟩
    dsimp only
    rw [v]
    exact flat_reads f r
section
variable {X : Cx} {pins : List (Addr × Obj)} {σ : L2.St} {H : Hp} {s : Shared}
mutual
/-- such data is read; where it has no list, sys.modules is not within -/
theorem Dt.reads {far : Bool} (I : Inv X pins σ H s) : ∀ {d : PyData} {v : V} {u : Value}, Dt far H v d → RelV v u → ∃ as, Reads s.heap u d as ∧ ((far = true ∨ hasList d = false) → sysModules ∉ as)
  | _, _, _, .non, r => by cases r; exact ⟨_, .none, fun _ m => nomatch m⟩
  | _, _, _, .bl b, r => by cases r; exact ⟨_, .bool b, fun _ m => nomatch m⟩
  | _, _, _, .int i, r => by obtain ⟨t, rfl⟩ := r; exact ⟨_, .int i t, fun _ m => nomatch m⟩
  | _, _, _, .str x, r => by obtain ⟨t, rfl⟩ := r; exact ⟨_, .str x t, fun _ m => nomatch m⟩
  | _, _, _, .lst (a := a) (xs := xs) e fr t, r => by
    cases r
    obtain ⟨_, its, n, rv, ho⟩ := I.hok a (.lst xs) e
    obtain ⟨as, z, n1⟩ := DtAll.reads I t rv
    refine ⟨_, Reads.list ho rfl rfl z, fun no m => ?_⟩
    rcases no with no | no
    · rcases List.mem_cons.mp m with m | m
      · exact fr no m.symm
      · exact n1 (.inl no) m
    · simp [hasList] at no
  | _, _, _, .tup (a := a) (xs := xs) e t, r => by
    cases r
    obtain ⟨_, its, rv, o, ho, hc, n, hd⟩ := I.hok a (.tup xs) e
    obtain ⟨as, z, no⟩ := DtAll.reads I t rv
    exact ⟨_, Reads.tuple ho hc hd z, fun q => no (by simpa [hasList] using q)⟩
  | _, _, _, .dict (a := a) (kvs := kvs) e pr, r => by
    cases r
    obtain ⟨_, low, vs, kv, o, es, ep, ho, hx, hd, _, pa, _⟩ := dk_of I.hok e
    obtain ⟨z1, z2⟩ := dict_reads (h := s.heap) pr kv pa
    refine ⟨_, Reads.dict ho hx.1 hd z1 z2, fun _ m => ?_⟩
    rw [List.mem_append] at m
    rcases m with m | m
    · rcases List.mem_cons.mp m with m | m
      · rw [← m] at low
        simp at low
      · cases m
    · cases m
theorem DtAll.reads {far : Bool} (I : Inv X pins σ H s) : ∀ {ds : List PyData} {vs : List V} {us : List Value}, DtAll far H vs ds → Vals vs us → ∃ as, ReadsAll s.heap us ds as ∧ ((far = true ∨ hasListAll ds = false) → sysModules ∉ as)
  | _, _, _, .nil, r => by cases r; exact ⟨_, .nil, fun _ m => nomatch m⟩
  | _, _, _, .cons h t, r => by
    cases r with
    | cons r1 r2 =>
      obtain ⟨as, z1, n1⟩ := Dt.reads I h r1
      obtain ⟨bs, z2, n2⟩ := DtAll.reads I t r2
      refine ⟨_, .cons z1 z2, fun no m => ?_⟩
      simp only [hasListAll, Bool.or_eq_false_iff] at no
      rcases List.mem_append.mp m with m | m
      · exact n1 (no.imp id And.left) m
      · exact n2 (no.imp id And.right) m
end
end
/-- repr(x) of data -/
def rRep : List V → Hp → VK → Prop := fun xs H Q => ∃ x d far, xs = [x] ∧ Dt far H x d ∧ (d.hasDict = true → far = true ∨ hasList d = false) ∧ d.showable = true ∧ d.shown.length ≤ sizeLine ∧ d.depth ≤ 60 ∧ Q (.str d.shown) H
section
variable {X : Cx}
theorem call_repr {n : Nat} (room : Room n X.A) (gd : X.A.guards = some []) : CallR X (.builtin "repr") rRep := by
  intro pins s σ H xs us Q I r ho
  obtain ⟨x, d, far, rfl, dq, cl, sh, sz, dp, q⟩ := ho
  cases r with
  | @cons _ u _ ws rx rr =>
    cases rr
    obtain ⟨as, rd, no1⟩ := dq.reads I rx
    have nosys : d.hasDict = true → sysModules ∉ as := fun z => no1 (cl z)
    have un := room.un
    cases rd with
    | none =>
      exact P.repr_of_none ⟨.str _, H, I.tok _, ⟨_, rfl⟩, by simpa only [PyData.shown] using q⟩
    | bool b =>
      refine P.repr_of_bool ⟨.str _, H, I.tok _, ⟨_, rfl⟩, ?_⟩
      simp only [PyData.shown] at q
      cases b
      · exact q
      · exact q
    | int i t =>
      exact P.repr_of_int (by simpa [PyData.showable] using sh) ⟨.str _, H, I.tok _, ⟨_, rfl⟩, by simpa only [PyData.shown] using q⟩
    | str z t =>
      simp only [PyData.shown] at q sz
      exact P.repr_of_str ⟨.str _, H, I.tok _, ⟨_, rfl⟩, q⟩ sz
    | list h1 h2 h3 h4 =>
      exact repr_of_reads' (Reads.list h1 h2 h3 h4) sh nosys gd (by omega) (fun _ _ z => z) (fun h' u tk k => ⟨.str _, H, I.kept k, ⟨_, rfl⟩, q⟩) sz
    | tuple h1 h2 h3 h4 =>
      exact repr_of_reads' (Reads.tuple h1 h2 h3 h4) sh nosys gd (by omega) (fun _ _ z => z) (fun h' u tk k => ⟨.str _, H, I.kept k, ⟨_, rfl⟩, q⟩) sz
    | dict h1 h2 h3 h4 h5 =>
      exact repr_of_reads' (Reads.dict h1 h2 h3 h4 h5) sh nosys gd (by omega) (fun _ _ z => z) (fun h' u tk k => ⟨.str _, H, I.kept k, ⟨_, rfl⟩, q⟩) sz
end
/-! ### the law's own end -/
theorem hidT_ns {h : Heap} {H : Hp} {b : Addr} {m : Str → Option Value} (z : h.Ns b m) (free : ∀ (o : Obj) (es : Array DictEntry) (ep : Nat), h.get? b = some o → o.data = .dict es ep → H b = none) : (hidT h H).Ns b m := by
  obtain ⟨o, es, ep, e, d, r⟩ := z
  exact ⟨o, es, ep, hidT_get e (free o es ep e d), d, r⟩
theorem lawG_call {P : Program} {w : World} {K : PySem.W.Frag} {mg mb : Str → Option Value} {CT : CXT} {n : Nat} {fa a : Addr} {fd : FuncData} {x : Str} {sp : Sp} {s₁ : Shared} {vs : List Value} {ns : List Int}
    (atK : K.In s₁.heap) (glob : s₁.heap.Ns mainGlobals mg) (blt : s₁.heap.Ns builtinsNs mb) (boot : ∀ x : Str, x ≠ "__name__" → mb x = bootBuiltins x) (lim : s₁.heap.NoLimit) (gens : s₁.gens = #[])
    (ob : s₁.heap.get? a = some { cls := .type "list", data := .seq vs.toArray }) (nums : IntsAre vs ns) (len : ns.length ≤ sizeLine) (room : Room n callerA)
    (F : ∀ base : Heap, K.In base → base.Ns mainGlobals mg → FnG P w K mg base CT n fa fd [x] sp) (bi : ∀ (s : Shared) (u : Value), BindsTo s fd ⟨[u], []⟩ [(x, u)])
    (ho : ∀ H : Hp, Only H → SqL K H a (ns.map V.int) → sp [.ref a] H (fun v _ => v = .bl true) fun _ _ _ => False)
    (none_out : ∀ H e s', CT [] H s₁ (fun _ _ _ => False) e s' → False) :
    codeAny (model P w) callerA (.call (.ref fa) ⟨[.ref a], []⟩) (fun r s' => r = .ok (.ret (.bool true)) ∧ OldK s₁.heap s'.heap ∧ s'.os = s₁.os ∧ AllBare s'.gens) s₁ := by
  have main : ∀ H : Hp, Only H → SqL K H a (ns.map V.int) → HOk P w H s₁.heap → (∀ b, b ≠ a → H b = none) → (K.lookup a = none ∨ H a = none) →
      codeAny (model P w) callerA (.call (.ref fa) ⟨[.ref a], []⟩) (fun r s' => r = .ok (.ret (.bool true)) ∧ OldK s₁.heap s'.heap ∧ s'.os = s₁.os ∧ AllBare s'.gens) s₁ := by
    intro H only sq hok off at_
    have free : ∀ (b : Addr) (o : Obj) (es : Array DictEntry) (ep : Nat), s₁.heap.get? b = some o → o.data = .dict es ep → H b = none := by
      intro b o es ep e d
      by_cases hb : b = a
      · rw [hb, ob] at e
        cases e
        cases d
      · exact off b hb
    have inB : K.In (hidT s₁.heap H) := by
      intro b o e
      refine hidT_get (atK b o e) ?_
      by_cases hb : b = a
      · rcases at_ with z | z
        · rw [hb, z] at e
          cases e
        · rw [hb]
          exact z
      · exact off b hb
    have nsB : (hidT s₁.heap H).Ns mainGlobals mg := hidT_ns glob (free _)
    obtain ⟨mc, l1, l2⟩ := lim
    have mod : L2.Mod K mg (hidT s₁.heap H) := ⟨inB, nsB, ⟨mb, hidT_ns blt (free _), boot⟩, ⟨mc, hidT_ns l1 (free _), l2⟩⟩
    have en : Env0 P w K mg (hidT s₁.heap H) callerA [] s₁ H :=
      ⟨rfl, mod, fun b o z => of_hidT z, Nat.le_of_eq (hidT_size _ _), trivial, fun b z => (List.not_mem_nil z).elim, hok, .of_eq gens⟩
    refine codeAny_mono ((F _ inB nsB).goes callerA [] s₁ H ⟨[.ref a], []⟩ [.ref a] [.ref a] _ _ room rfl en (bi s₁ (.ref a)) (.cons rfl .nil) (ho H only sq)) ?_
    intro r s' z
    match r, z with
    | .error er, z => exact (none_out H er s' z).elim
    | .ok (.ret u), z =>
      obtain ⟨v, G, os, bare, un, hok', rel, rfl⟩ := z
      cases rel
      refine ⟨rfl, OldK.of_keep fun b o e => ?_, os, bare⟩
      rcases only b with q | ⟨ob2, ys, q⟩
      · exact un.keep b o e q (fun z => List.not_mem_nil z) (fun z => List.not_mem_nil z)
      · have e1 := (hok b _ q).1
        have e2 := (hok' b _ (un.frzs b ob2 _ q)).1
        rw [e] at e1
        cases e1
        exact e2
  cases there : K.lookup a with
  | some o =>
    have e := (atK a o there).symm.trans ob
    cases e
    exact main (fun _ => none) (fun _ => .inl rfl) (.inr ⟨_, vs.toArray, _, there, rfl, rfl, rfl, by rw [List.size_toArray, nums.length]; exact len, by simpa using vals_ints nums⟩) (fun b u z => nomatch z) (fun _ _ => rfl) (.inr rfl)
  | none =>
    refine main (upd (fun _ => none) a (.frz { cls := .type "list", data := .seq vs.toArray } (.lst (ns.map V.int)))) (fun b => ?_) (.inl (.inr ⟨_, upd_same⟩)) (fun b u z => ?_) (fun b hb => upd_ne hb) (.inl there)
    · by_cases hb : b = a
      · rw [hb]
        exact .inr ⟨_, _, upd_same⟩
      · exact .inl (upd_ne hb)
    · by_cases hb : b = a
      · rw [hb, upd_same] at z
        cases z
        rw [hb]
        exact ⟨ob, by rw [List.length_map]; exact len, vs, _, vals_ints nums, ob⟩
      · rw [upd_ne hb] at z
        cases z
theorem walkG {l : PySem.W.OpenLaw} {m n : Nat} {q : Program} {loose : List Str} {XP : (Str → Option Value) → Heap → Prop} {YP : World → Heap → Prop} {d : DefRec} {K : Params → PySem.W.Frag} {CT : World → CXT} {sp : World → Sp} {x : Str}
    (most : l.most = some m) (fits : m ≤ sizeLine) (nodef : d.params.defaults = []) (room : Room n callerA) (inn : ∀ (w : World) (h : Heap), YP w h → (K w.params).In h)
    (F : ∀ (w : World) (mg : Str → Option Value) (fa : Addr) (h : Heap), (K w.params).In h → h.Ns mainGlobals mg → mg d.name = some (.ref fa) →
      ∃ fd : FuncData, (∀ (s : Shared) (u : Value), BindsTo s fd ⟨[u], []⟩ [(x, u)]) ∧ ∀ base : Heap, (K w.params).In base → base.Ns mainGlobals mg → FnG l.prog w (K w.params) mg base (CT w) n fa fd [x] (sp w))
    (ho : ∀ (w : World) (H : Hp) (a : Addr) (ns : List Int), ns.length ≤ m → Only H → SqL (K w.params) H a (ns.map V.int) → sp w [.ref a] H (fun v _ => v = .bl true) fun _ _ _ => False)
    (none_out : ∀ (w : World) (H : Hp) (s : Shared) (e : Value) (s' : Shared), CT w [] H s (fun _ _ _ => False) e s' → False) :
    PySem.W.WalkO q loose XP YP l.row.toRowW d [] (fun f vs => PySem.call f vs) := by
  refine Att.attach_call most nodef ?_
  intro w s₀ s₁ mg mb fa o pm cd doc a vs ns G Y _ _ _ isAt ob nums len gens
  obtain ⟨fd, bi, good⟩ := F w mg fa _ (inn w _ Y) G.T.g isAt
  exact lawG_call (inn w _ Y) G.T.g G.T.b G.T.builtins G.T.nolimit gens ob nums (Nat.le_trans len fits) room good bi (fun H h1 h2 => ho w H a ns len h1 h2) fun H e s' => none_out w H s₁ e s'
end PSG

set_option Elab.async false
set_option linter.all false
set_option maxRecDepth 100000
set_option maxHeartbeats 4000000
namespace PSG
open PySem PySem.Spec L2
open PyProof.Rows (IntsAre AllBare)
/-! ### try with several clauses, names or pairs of names as their classes, with or without «as» -/
theorem upToSlots_more {h h' : Heap} (k : ∀ q o, h.get? q = some o → h'.get? q = some o) : h.UpToSlots h' := fun b o e _ => ⟨o.slots, k b o e⟩
theorem flying_more {base h h' : Heap} {l : List Env} {e : Addr} {Z : Obj → Prop} (x : PySem.HandSPX.FlyingZ base l e Z h) (k : ∀ q o, h.get? q = some o → h'.get? q = some o) : PySem.HandSPX.FlyingZ base l e Z h' := by
  obtain ⟨st, nb, ff, oe, vs, T, oT, ts, he, z, hv, h1, hT, ne, gT, hts, h3⟩ := x
  exact ⟨fun b o q => k b o (st b o q), nb, ff.of_keeps fun b o q _ => ⟨o, k b o q, rfl⟩, oe, vs, T, oT, ts, k _ _ he, z, hv, h1, hT, ne, k _ _ gT, hts, h3⟩
/-- the test of a clause: ok tells of which classes it is answered how -/
def Asks (X : Cx) (t : Expr) (ok : Value → Bool → Prop) : Prop :=
  ∀ (a : Addr) (oe : Obj) (cls : Value) (d : Option Addr) (pn pins : List (Addr × Obj)) (σ : L2.St) (H : Hp) (s : Shared) (Q : Value → Shared → Prop) (E : Value → Shared → Prop) (b : Bool),
    Zc cls d oe → (∃ vs, oe.data = .fields vs) → Inv (X.suite a ((a, oe) :: pn)) pins σ H s → ok cls b →
    (∀ c h' tk, (∀ q o, s.heap.get? q = some o → h'.get? q = some o) → PySem.W.Looks (model X.prog X.w) h' (excMatches (.ref a) c) b → Q c { s with heap := h', toks := tk }) →
    wpAny (model X.prog X.w) (X.A.mark (some (.ref a))) (eval t X.env) Q E s
section
variable {X : Cx}
theorem name_is {x : Str} {c : Value} {np : Pos} (hc : Names X x c) {a : Addr} {pn pins : List (Addr × Obj)} {σ : L2.St} {H : Hp} {s : Shared} {Q : Value → Shared → Prop} {E : Value → Shared → Prop}
    (I : Inv (X.suite a pn) pins σ H s) (q : Q c s) : wpAny (model X.prog X.w) (X.A.mark (some (.ref a))) (eval (.Name x np) X.env) Q E s := by
  obtain ⟨g, nd, m | ⟨m, v, nn⟩⟩ := hc
  · exact ld_glob (X := X.suite a pn) I g m q nd
  · exact ld_blt (X := X.suite a pn) I g m v q nn nd
theorem exc_class {a : Addr} {oe : Obj} {cls : Value} {d : Option Addr} {pn pins : List (Addr × Obj)} {σ : L2.St} {H : Hp} {s : Shared} (z : Zc cls d oe) (I : Inv (X.suite a ((a, oe) :: pn)) pins σ H s) :
    PySem.W.Looks (model X.prog X.w) s.heap (typeOf (.ref a)) cls := fun A Q E s1 k q =>
  wpAny_typeOf_ref (k _ _ (I.pin (a, oe) (List.mem_append_left _ List.mem_cons_self)).1) (by rw [z.1]; exact q)
theorem asks_one {x : Str} {c : Value} {np : Pos} (hc : Names X x c) : Asks X (.Name x np) fun cls b => PySem.W.exmOne X.K cls c = some b := by
  intro a oe cls d pn pins σ H s Q E b z f I e q
  exact name_is hc I (q c s.heap s.toks (fun _ _ z => z) (PySem.W.exm_one (M := model X.prog X.w) I.kIn (exc_class z I) e))
theorem asks_two {x y : Str} {c e : Value} {p1 p2 tp : Pos} {kk : Nat} (hc : Names X x c) (he : Names X y e) : Asks X (.Tuple [.Name x p1, .Name y p2] kk tp) fun cls b => PySem.W.exmAny X.K cls [c, e] = some b := by
  intro a oe cls d pn pins σ H s Q E b z f I ok q
  refine wpAny_Tuple (wpAny_items_cons (name_is hc I (wpAny_items_cons (name_is he I (wpAny_items_nil ⟨by size_fits, ?_⟩)))))
  have more : ∀ q o, s.heap.get? q = some o → (s.heap.push { cls := .type "tuple", data := .seq [c, e].toArray }).get? q = some o := fun _ _ z => Heap.get?_push_of_some _ z
  exact q (.ref s.heap.objs.size) _ s.toks more (PySem.W.exm_tup2 (I.kIn.keeps more) ((exc_class z I).keeps more) (Heap.get?_push_size s.heap rfl) ok)
end
abbrev Cl := (Value → Bool → Prop) × Option Nat × (Addr → Value → Option Addr → TS)
def endsOf (n : Option Nat) (D : Ends) : Ends := match n with
  | none => D
  | some i => { nx := fun σ G => D.nx (σ.set i none) G, rt := D.rt, bk := fun σ G => D.bk (σ.set i none) G, ct := fun σ G => D.ct (σ.set i none) G }
def slotOf (n : Option Nat) (a : Addr) (σ : L2.St) : L2.St := match n with
  | none => σ
  | some i => σ.set i (some (.ref a))
/-- what the clauses wish of an exception of the body -/
def wCl (out : WX) (D : Ends) : List Cl → WX
  | [] => out
  | (ok, n, ts) :: r => fun cls d σ H => ∃ b, ok cls b ∧ (b = true → ∀ a, H a = none → ts a cls d (endsOf n D) (slotOf n a σ) H) ∧ (b = false → wCl out D r cls d σ H)
def SuiteOk (X : Cx) (body : List Stmt) (ts : Addr → Value → Option Addr → TS) : Prop :=
  ∀ (a : Addr) (oe : Obj) (cls : Value) (d : Option Addr) (pn : List (Addr × Obj)), Zc cls d oe → (∃ vs, oe.data = .fields vs) → PSs (X.suite a ((a, oe) :: pn)) body (ts a cls d)
inductive ClOk (X : Cx) : List ExceptHandler → List Cl → Prop
  | nil : ClOk X [] []
  | plain {t : Expr} {ok : Value → Bool → Prop} {ts : Addr → Value → Option Addr → TS} {b₀ : Stmt} {suite : List Stmt} {pos : Pos} {hs : List ExceptHandler} {l : List Cl} :
      Asks X t ok → SuiteOk X (b₀ :: suite) ts → ClOk X hs l → ClOk X (.ExceptHandler (some t) none (b₀ :: suite) pos :: hs) ((ok, none, ts) :: l)
  | named {t : Expr} {ok : Value → Bool → Prop} {i : Nat} {n : Str} {ts : Addr → Value → Option Addr → TS} {b₀ : Stmt} {suite : List Stmt} {pos : Pos} {hs : List ExceptHandler} {l : List Cl} :
      X.N.Nodup → X.N[i]? = some n → X.env.kindOf n = some .local → Asks X t ok → SuiteOk X (b₀ :: suite) ts → ClOk X hs l → ClOk X (.ExceptHandler (some t) (some n) (b₀ :: suite) pos :: hs) ((ok, some i, ts) :: l)
section
variable {X : Cx} {pins : List (Addr × Obj)} {D : Ends} {out : WX}
theorem clauses (ok : X.Ok) (one : X.stack = X.env :: X.outer) (own : X.env.frame = some X.env.locals) (tk : Takes X out) {a : Addr} {B : Heap} {sI : Shared} {σ : L2.St} {H : Hp} {cls : Value} {d : Option Addr}
    (J : Inv X pins σ H sI) (nb : ∀ b o, sI.heap.get? b = some o → b ∉ frs X.stack → B.get? b = some o) (na : H a = none) :
    ∀ {hs : List ExceptHandler} {l : List Cl}, ClOk X hs l → wCl out D l cls d σ H → ∀ s3 : Shared, PySem.HandSPX.FlyingZ B (X.env :: X.outer) a (Zc cls d) s3.heap → sI.heap.UpToSlots s3.heap → s3.os = sI.os → AllBare s3.gens →
      wpAny (model X.prog X.w) X.A (handleBy (.ref a) X.env hs) (SP X pins D) X.xe s3 := by
  intro hs l cl
  -- the exception's object, apart from all frames
  have apart : ∀ {h : Heap}, PySem.HandSPX.FlyingZ B (X.env :: X.outer) a (Zc cls d) h → ∃ oe vs, h.get? a = some oe ∧ Zc cls d oe ∧ oe.data = .fields vs ∧ a ≠ X.env.locals ∧ a ∉ X.fs := by
    intro h fl
    obtain ⟨oe, vs, e, z, dd⟩ := fl.there
    have no : a ∉ frs (X.env :: X.outer) := fun m => by
      obtain ⟨_, o2, e2, nf⟩ := fl.2.2.1.mem m
      rw [e] at e2
      cases e2
      exact nf _ dd
    refine ⟨oe, vs, e, z, dd, fun q => no ?_, fun m => no ?_⟩
    · exact List.mem_filterMap.mpr ⟨X.env, List.mem_cons_self, by rw [own, q]⟩
    · obtain ⟨en, h1, h2⟩ := List.mem_filterMap.mp m
      exact List.mem_filterMap.mpr ⟨en, List.mem_cons_of_mem _ h1, h2⟩
  have landed : ∀ {s3 : Shared}, PySem.HandSPX.FlyingZ B (X.env :: X.outer) a (Zc cls d) s3.heap → sI.heap.UpToSlots s3.heap → s3.os = sI.os → AllBare s3.gens → Inv X pins σ H s3 :=
    fun fl up os ag => J.landed nb fl.1 up os ag
  -- a suite that runs, from the state behind a test that is answered with yes
  have run : ∀ {b₀ : Stmt} {body : List Stmt} {ts : Addr → Value → Option Addr → TS} {σ2 : L2.St} {D2 : Ends} {s4 : Shared} {R : Flow → Shared → Prop} {E : Value → Shared → Prop} {oe : Obj}, SuiteOk X (b₀ :: body) ts →
      Zc cls d oe → (∃ vs, oe.data = .fields vs) → Inv (X.suite a ((a, oe) :: (X.pn ++ pins))) [] σ2 H s4 → ts a cls d D2 σ2 H →
      (∀ f s5, SP (X.suite a ((a, oe) :: (X.pn ++ pins))) [] D2 f s5 → R f s5) → wpAny (model X.prog X.w) (X.A.mark (some (.ref a))) (execs (b₀ :: body) X.env) R E s4 := by
    intro b₀ body ts σ2 D2 s4 R E oe su z f S ho hq
    exact wpAny_mono ((su a oe cls d (X.pn ++ pins) z f).run [] s4 σ2 H D2 S ho) hq fun _ _ z => z.elim
  induction cl with
  | nil =>
    intro w s3 fl up os ag
    refine wpAny_handleBy_nil ?_
    obtain ⟨_, _, _, oe, vs, T, oT, ts, e, _, dd, h1, _⟩ := id fl
    unfold PySem.passOn
    refine wpAny_bind (wpAny_field e dd h1 ?_)
    rw [if_neg (by simp)]
    have last : wpAny (model X.prog X.w) X.A (setFlight (.ref a) X.env.frame) (fun _ s4 => wpAny (model X.prog X.w) X.A (throw (.ref a) : Sem Flow) (SP X pins D) X.xe s4) X.xe s3 := by
      rw [own]
      refine PySem.HandSPX.setFlight_upZ fl fun h4 f4 u4 => wpAny_throw (tk _ _ ⟨a, B, sI, pins, σ, H, cls, d, rfl, J, nb, up.trans u4, .inr (.inr (by rw [one]; exact f4)), na, os, ag, w⟩)
    first
      | exact wpAny_bind last
      | exact wpAny_bind (wpAny_pure (wpAny_bind last))
  | @plain t okc ts b₀ suite pos hs l ask su _ ih =>
    intro w s3 fl up os ag
    obtain ⟨b, hb, yes, no⟩ := w
    obtain ⟨oe, vs, e, z, dd, nL, nF⟩ := apart fl
    have S := (landed fl up os ag).suite e dd na nL nF
    refine PySem.W.exc_clause (ask a oe cls d (X.pn ++ pins) [] σ H s3 _ _ b z ⟨_, dd⟩ S hb fun c h4 t4 k4 lk => ⟨b, lk, ?_⟩)
    have fl4 := flying_more fl k4
    have up4 := up.trans (upToSlots_more k4)
    cases b with
    | false => exact ih (no rfl) { s3 with heap := h4, toks := t4 } fl4 up4 os ag
    | true =>
      rw [if_pos rfl]
      refine PySem.HandSPX.lands_againZ (s := { s3 with heap := h4, toks := t4 }) fl4 fun h5 fl5 up5 => ?_
      obtain ⟨oe5, vs5, e5, z5, dd5, nL5, nF5⟩ := apart fl5
      have S5 := (landed (s3 := { s3 with heap := h5, toks := t4 }) fl5 (up4.trans up5) os ag).suite e5 dd5 na nL5 nF5
      refine run su z5 ⟨_, dd5⟩ S5 (yes rfl a na) fun f s6 hs6 => ?_
      cases f with
      | next => obtain ⟨σ6, H6, S6, q⟩ := hs6; exact ⟨σ6, H6, S6.unsuite ok, q⟩
      | brk => obtain ⟨σ6, H6, S6, q⟩ := hs6; exact ⟨σ6, H6, S6.unsuite ok, q⟩
      | cont => obtain ⟨σ6, H6, S6, q⟩ := hs6; exact ⟨σ6, H6, S6.unsuite ok, q⟩
      | ret u => obtain ⟨v, σ6, H6, S6, r, q⟩ := hs6; exact ⟨v, σ6, H6, S6.unsuite ok, r, q⟩
  | @named t okc i n ts b₀ suite pos hs l nd hi loc ask su _ ih =>
    intro w s3 fl up os ag
    obtain ⟨b, hb, yes, no⟩ := w
    obtain ⟨oe, vs, e, z, dd, nL, nF⟩ := apart fl
    have S := (landed fl up os ag).suite e dd na nL nF
    refine PySem.W.exc_clause_as (ask a oe cls d (X.pn ++ pins) [] σ H s3 _ _ b z ⟨_, dd⟩ S hb fun c h4 t4 k4 lk => ⟨b, lk, ?_⟩)
    have fl4 := flying_more fl k4
    have up4 := up.trans (upToSlots_more k4)
    cases b with
    | false => exact ih (no rfl) { s3 with heap := h4, toks := t4 } fl4 up4 os ag
    | true =>
      rw [if_pos rfl]
      refine PySem.HandSPX.lands_againZ (s := { s3 with heap := h4, toks := t4 }) fl4 fun h5 fl5 up5 => ?_
      obtain ⟨oe5, vs5, e5, z5, dd5, nL5, nF5⟩ := apart fl5
      have S5 := (landed (s3 := { s3 with heap := h5, toks := t4 }) fl5 (up4.trans up5) os ag).suite e5 dd5 na nL5 nF5
      refine store_ok (X := X.suite a ((a, oe5) :: (X.pn ++ pins))) (v := .ref a) S5 nd hi (.inl loc) rfl (fun s6 S6 => ?_) (.inr loc)
      refine run su z5 ⟨_, dd5⟩ S6 (yes rfl a na) fun f s7 hs7 => ?_
      cases f with
      | next => obtain ⟨σ7, H7, S7, q⟩ := hs7; exact gone_ok (S7.unsuite ok) nd hi loc fun s8 J8 => ⟨_, H7, J8, q⟩
      | brk => obtain ⟨σ7, H7, S7, q⟩ := hs7; exact gone_ok (S7.unsuite ok) nd hi loc fun s8 J8 => ⟨_, H7, J8, q⟩
      | cont => obtain ⟨σ7, H7, S7, q⟩ := hs7; exact gone_ok (S7.unsuite ok) nd hi loc fun s8 J8 => ⟨_, H7, J8, q⟩
      | ret u => obtain ⟨v, σ7, H7, S7, r, q⟩ := hs7; exact gone_ok (S7.unsuite ok) nd hi loc fun s8 J8 => ⟨v, _, H7, J8, r, q⟩
theorem ps_tryCl {body : List Stmt} {h₀ : ExceptHandler} {hs : List ExceptHandler} {l : List Cl} {pos : Pos} {tb : WX → TS} (one : X.stack = X.env :: X.outer) (own : X.env.frame = some X.env.locals) (tk : Takes X out)
    (der : ∀ (W : WX) (pn : List (Addr × Obj)) (xe : Value → Shared → Prop), Takes (X.tr pn xe) W → PassesOwn (model X.prog X.w) X.A X.env xe → PSs (X.tr pn xe) body (tb W)) (cl : ClOk X (h₀ :: hs) l) :
    PS X (.Try body (h₀ :: hs) [] [] pos) fun D σ H => tb (wCl out D l) D σ H where
  run := by
    intro pins s σ H D I ho
    have ok := I.ok
    have fr : X.A.frames = some (X.env :: X.outer) := ok.frames.trans (by rw [one])
    refine wpAny_Try_except (wpAny_mono ((der (wCl out D l) (X.pn ++ pins) _ ?_ PassesOwn.looking).run [] s σ H D (I.toTry _) ho) (fun f s1 hs1 => ?_) fun e s1 z => z)
    · intro u s2 xx
      obtain ⟨a, B, sI, pins2, σ2, H2, cls, d, rfl, J2, nb, up, sky, na, os, ag, w⟩ := xx
      have J : Inv X pins σ2 H2 sI := J2.ofTry ok
      have sky2 : Sky B (X.env :: X.outer) a (Zc cls d) X.env.locals s2.heap := by rw [← one]; exact sky
      exact Sky.land Zc.steady fr own sky2 fun h3 fl3 up3 => clauses ok one own tk J nb na cl w { s2 with heap := h3 } fl3 (up.trans up3) os ag
    · cases f with
      | next => obtain ⟨σ1, H1, J, q⟩ := hs1; exact wpAny_execs_nil ⟨σ1, H1, J.ofTry ok, q⟩
      | brk => obtain ⟨σ1, H1, J, q⟩ := hs1; exact ⟨σ1, H1, J.ofTry ok, q⟩
      | cont => obtain ⟨σ1, H1, J, q⟩ := hs1; exact ⟨σ1, H1, J.ofTry ok, q⟩
      | ret u => obtain ⟨v, σ1, H1, J, r, q⟩ := hs1; exact ⟨v, σ1, H1, J.ofTry ok, r, q⟩
end
end PSG

set_option Elab.async false
set_option linter.all false
set_option maxRecDepth 100000
set_option maxHeartbeats 4000000
namespace PySem.W
open PySem PySem.Spec PySem.Calls PyProof.Rows
/-! ### isinstance of an exception of an own class, with or without attributes -/
/-- what the class must say -/
structure XcC (K : Frag) (D : Addr) : Prop where
  get : findIn K (.ref D) "__getattribute__" = some (some (.builtin "BaseException.__getattribute__"))
  get2 : findIn K (.ref D) "__getattr__" = some none
  exc : subIn K (.ref D) (.type "BaseException") = some true
  dict : hasDictIn K D = true
  cls : findIn K (.ref D) "__class__" = some (some (.builtin "object.__class__"))
  desc : specialIn K (.builtin "object.__class__") "__get__" = some (some (.builtin "getset_descriptor.__get__"))
  data : takesIn K (.builtin "object.__class__") = some true
  obj : mroIn K D (.type "object") = some true
theorem XcC.there {K : Frag} {D : Addr} (T : XcC K D) : ∃ o cd, K.lookup D = some o ∧ o.data = .cls cd := by
  obtain ⟨c1, e, _⟩ := any_some T.dict
  unfold clsIn at e
  cases q : K.lookup D with
  | none =>
    rw [q] at e
    cases e
  | some o =>
    obtain ⟨oc, od, dt, sl⟩ := o
    cases dt <;> (rw [q] at e; first | exact ⟨_, _, rfl, rfl⟩ | cases e)
section
variable {prog : Program} {w : World} {A : Around} {E : Value → Shared → Prop} {s : Shared} {K : Frag} {x D : Addr} {ox : Obj} {od : Option Obj}
theorem XcC.asked {Q : Option Value → Shared → Prop} (T : XcC K D) (X : K.In s.heap) (I : InstAt s.heap x ox D od) (ho : Q (some (.ref D)) { s with toks := s.toks + 1 }) :
    wpAny (model prog w) A (getAttr? (.ref x) "__class__") Q E s := by
  have found : findObj K D od "__class__" = some (.bind (.builtin "getset_descriptor.__get__") (.builtin "object.__class__")) := by
    obtain ⟨cd, c, _⟩ := any_some T.dict
    unfold findObj
    simp [c, T.cls, T.desc, T.data]
  obtain ⟨hp, g, dr, t, os⟩ := s
  have k1 := I.type (M := model prog w)
  have k2 := looks_findIn (M := model prog w) X T.get
  have k3 := looks_findIn (M := model prog w) X T.get2
  have k4 := looks_find (M := model prog w) X I found
  have k5 : Looks (model prog w) hp (isInstance (.ref x) (.type "BaseException")) true := k1.andThen (looks_subIn X T.exc)
  have no : (onTheHeap (Value.ref D) && Value.builtin "BaseException.__getattribute__" == Value.builtin "object.__getattribute__") = false := by
    show (Value.builtin "BaseException.__getattribute__" == Value.builtin "object.__getattribute__") = false
    decide +kernel
  have no2 : (false && onTheHeap (Value.builtin "BaseException.__getattribute__")) = false := rfl
  unfold getAttr?
  unfold getAttrBy?
  unfold getAttrBy
  refine wpAny_bind (wpAny_mkText (wpAny_bind (wpAny_attempt (wpAny_holding (wpAny_bind (k1.at (wpAny_bind (k2.at ?_))))))))
  show wpAny _ _ (if (onTheHeap (Value.ref D) && Value.builtin "BaseException.__getattribute__" == Value.builtin "object.__getattribute__") = true then _ else _) _ _ _
  rw [no]
  rw [if_neg (by decide)]
  unfold getAttrByItsOwn
  unfold hookBefore
  refine wpAny_bind ?_
  rw [if_pos (show onTheHeap (.ref D) = true from rfl)]
  refine k3.at (wpAny_bind (wpAny_attempt (wpAny_holding ?_)))
  unfold callGetattribute
  rw [no2]
  rw [if_neg (by decide)]
  unfold boundAndCalled
  rw [F.excAttr_ValueError.ga.bind (.ref x)]
  refine wpAny_bind (wpAny_pure ?_)
  show wpAny _ _ (call (.builtin "BaseException.__getattribute__") [.ref x, .str "__class__" t]) _ _ _
  refine wpAny_call (codeAny_call_builtin F.excAttr_ValueError.ga.plain F.entry_bexc_ga (@check_slot (model prog w) _ _ ⟨hp, g, dr, t + 1, os⟩ "BaseException.__getattribute__" "BaseException" "__getattribute__" (.ref x) [.str "__class__" t] [] _
    (by decide +kernel) (by decide +kernel) k5 (F.args_bexc_ga (.ref x) (.str "__class__" t)) ?_))
  unfold Builtin.«object.__getattribute__»
  refine wpAny_bind (wpAny_of_eq (a := ((Value.ref x : Value), [Value.str "__class__" t])) (by first | rfl | (simp only [slotArgs]; rfl)) (wpAny_bind (wpAny_pure (wpAny_bind (k1.at (wpAny_bind (k4.at ?_)))))))
  show wpAny _ _ (holding [Value.builtin "object.__class__"] (call (.builtin "getset_descriptor.__get__") [.builtin "object.__class__", .ref x, .ref D]) >>= ret) _ _ _
  refine wpAny_bind (wpAny_holding (wpAny_call (class_get (s := ⟨hp, g, dr, t + 1, os⟩) X I T.obj (wpAny_pure ?_))))
  show wpAny _ _ (handedOut (.ref D)) _ _ _
  rw [handedOut_of (v := .ref D) rfl]
  first
    | exact wpAny_pure ho
    | exact wpAny_pure (wpAny_pure ho)
    | exact wpAny_pure (wpAny_bind (wpAny_pure (wpAny_pure ho)))
theorem XcC.kit (T : XcC K D) : KitX K (.ref x) (.ref D) (fun h => ∃ od, InstAt h x ox D od) where
  ty := fun _ _ _ ⟨_, I⟩ => I.type
  it := fun M h X _ => by
    obtain ⟨o, cd, q, dd⟩ := T.there
    intro A2 Q2 E2 s2 k ho
    unfold isType
    unfold loadHead
    exact wpAny_bind (wpAny_loadPart (k _ _ (X _ _ q)) (by rw [dd]; exact wpAny_pure ho))
  ne := fun h tp dd its n sl X at_ => by
    obtain ⟨o, cd, q, d2⟩ := T.there
    cases z : (Value.ref D == Value.ref tp) with
    | false => rfl
    | true =>
      have e : D = tp := Value.ref.inj (beq_iff_eq.mp z)
      rw [← e, X _ _ q] at at_
      cases at_
      cases d2
  ca := fun X ⟨_, I⟩ ho => T.asked X I ho
end
end PySem.W

set_option Elab.async false
set_option linter.all false
set_option maxRecDepth 100000
set_option maxHeartbeats 4000000
/-! ### exceptions of own classes over any built-in base, as values -/
namespace PySem.XV
open PySem PySem.Spec PySem.W PySem.Calls PySem.HandSPX
section
variable {prog : Program} {w : World} {A : Around} {E : Value → Shared → Prop} {R : Result → Shared → Prop} {h : Heap} {g : Array GenState} {d : Drawn} {t : Nat} {os : OsState}
variable {nm q : Str} {C N : Addr} {bs bm bmB : List Value} {hdct : Bool} {sn : List Str} {sub : List Value} {ab : Bool} {col : Option Bool} {dd : Option Addr} {k0 k1 k2 k3 k5 : Option Value} {B newId initId : String}
theorem new_checked {M : Model} (F : ExcBaseFacts B newId initId bmB) (same : ∀ X : String, bm.contains (.type X) = bmB.contains (.type X)) {kw : List (Str × Value)} {Q : Unit → Shared → Prop}
    (at_ : h.get? C = some (excClassObj nm q C N bs bm hdct sn sub ab col dd k0 k1 k2 k3 k5 newId)) (ho : Q () ⟨h, g, d, t, os⟩) : wpAny M A (checkBuiltinCall newId ⟨[.ref C], kw⟩) Q E ⟨h, g, d, t, os⟩ := by
  have cB : (Value.ref C :: bm).contains (.type B) = true := by rw [List.contains_cons, same, F.hasB, Bool.or_true]
  have s0 := F.noStar
  simp only [checkBuiltinCall, F.newKind, F.newSplit, F.newRow]
  repeat (first
    | refine wpAny_loadPart_at at_ ?_
    | (refine wpAny_isSubtype_exc at_ ?_; rw [cB])
    | refine wpAny_staticBase_exc at_ ?_
    | refine wpAny_madeBy_exc at_ ?_
    | simp only [bne_self_eq_false, Bool.false_eq_true, if_false]
    | wp_step)
  exact ho
theorem new_kw (F : ExcBaseFacts B newId initId bmB) (same : ∀ X : String, bm.contains (.type X) = bmB.contains (.type X)) {kw : List (Str × Value)}
    (at_ : h.get? C = some (excClassObj nm q C N bs bm hdct sn sub ab col dd k0 k1 k2 k3 k5 newId))
    (ho : R (.ok (.ret (.ref (h.objs.size + 1)))) ⟨(h.push { cls := .type "tuple", data := .seq #[] }).push { cls := .ref C, data := .fields #[.ref h.objs.size, .none, .none, .none, .bool false, .none] }, g, d, t, os⟩) :
    codeAny (model prog w) A (.builtin newId ⟨[.ref C], kw⟩) R ⟨h, g, d, t, os⟩ := by
  have e0 := F.ends
  have cB : (Value.ref C :: bm).contains (.type B) = true := by rw [List.contains_cons, same, F.hasB, Bool.or_true]
  have cA : (Value.ref C :: bm).contains (.type "AttributeError") = false := by rw [List.contains_cons, same, F.noAttr]; rfl
  have cN : (Value.ref C :: bm).contains (.type "NameError") = false := by rw [List.contains_cons, same, F.noName]; rfl
  refine codeAny_builtinAt F.entry ?_
  unfold Builtin.«BaseException.__new__»
  refine wpAt_bind ?_
  show wpAt _ _ _ (stack >>= _) _ _ _
  refine wpAt_bind (wpAt_stack fun p below => wpAt_of_wpAny ?_)
  wp_walk
  refine wpAt_of_wpAny ?_
  rw [F.owner]
  repeat (first
    | with_reducible refine wpAny_madeHere_exc F.canon at_ ?_
    | with_reducible refine wpAny_loadPart_at at_ ?_
    | (with_reducible refine wpAny_isSubtype_exc at_ ?_; first | rw [cB] | rw [cA] | rw [cN])
    | wp_step)
  show R _ _
  rw [Heap.size_push]
  exact ho
theorem made_kw (F : ExcBaseFacts B newId initId bmB) (same : ∀ X : String, bm.contains (.type X) = bmB.contains (.type X)) {kw : List (Str × Value)} {fI : Addr} {Q : Fin → Shared → Prop}
    (at_ : h.get? C = some (excClassObj nm q C N bs bm hdct sn sub ab col dd k0 k1 k2 k3 k5 newId))
    (hi : W.Looks (model prog w) h (typeLookup (.ref C) "__init__") (some (.ref fI))) (hb : ∀ self, W.Looks (model prog w) h (bindSpecial (.ref fI) self) (.ref fI, [self]))
    (ho : codeAny (model prog w) A (.call (.ref fI) ⟨[.ref (h.objs.size + 1)], kw⟩)
      (fun r s' => match r with | .ok (.ret v) => v = .none ∧ Q (.done (.ret (.ref (h.objs.size + 1)))) s' | .ok _ => False | .error e => E e s')
      ⟨(h.push (W.kdv_tup [])).push (excO C h.objs.size), g, d, t, os⟩) :
    wpAny (model prog w) A (Builtin.«type.__call__» ⟨[.ref C], kw⟩) Q E ⟨h, g, d, t, os⟩ := by
  repeat (first | with_reducible refine wpAny_loadPart_at at_ ?_ | with_reducible refine wpAny_madeBy_exc at_ ?_ | wp_step)
  refine codeAny_call_builtin_code (Code.quiet_builtin _ F.quiet) (new_checked F same at_ (new_kw F same at_ ?_))
  show wpAny _ _ _ _ _ _
  have old : ∀ b o, h.get? b = some o → ((h.push (W.kdv_tup [])).push (excO C h.objs.size)).get? b = some o := fun b o e => Heap.get?_push_of_some _ (Heap.get?_push_of_some _ e)
  have at2 := old _ _ at_
  have new : ((h.push (W.kdv_tup [])).push (excO C h.objs.size)).get? (h.objs.size + 1) = some (excO C h.objs.size) := by heap_get
  have cC : (Value.ref C :: bm).contains (.ref C) = true := by simp
  have i1 := hi.keeps old
  have b1 := (hb (.ref (h.objs.size + 1))).keeps old
  unfold isInstance
  repeat (first | with_reducible refine wpAny_loadPart_at new ?_ | (with_reducible refine wpAny_isSubtype_exc at2 ?_; rw [cC]) | wp_step)
  show wpAny _ _ (typeLookup (.ref C) _) _ _ _
  refine i1.at (wpAny_holding (wpAny_bind (b1.at (wpAny_bind (wpAny_call (codeAny_mono ho fun r s' z => ?_))))))
  rcases r with e | (v | _ | _ | _) <;> first | exact z | exact z.elim | skip
  obtain ⟨rfl, z⟩ := z
  first
    | exact wpAny_pure (wpAny_pure z)
    | (wp_walk; exact z)
theorem call_kw (F : ExcBaseFacts B newId initId bmB) (same : ∀ X : String, bm.contains (.type X) = bmB.contains (.type X)) {kw : List (Str × Value)} {fI : Addr}
    (at_ : h.get? C = some (excClassObj nm q C N bs bm hdct sn sub ab col dd k0 k1 k2 k3 k5 newId))
    (hi : W.Looks (model prog w) h (typeLookup (.ref C) "__init__") (some (.ref fI))) (hb : ∀ self, W.Looks (model prog w) h (bindSpecial (.ref fI) self) (.ref fI, [self]))
    (ho : codeAny (model prog w) (A.under (.builtin "type.__call__" ⟨[.ref C], kw⟩)) (.call (.ref fI) ⟨[.ref (h.objs.size + 1)], kw⟩) (W.InitBack (h.objs.size + 1) R)
      ⟨(h.push (W.kdv_tup [])).push (excO C h.objs.size), g, d, t, os⟩) :
    codeAny (model prog w) A (.call (.ref C) ⟨[], kw⟩) R ⟨h, g, d, t, os⟩ := by
  have f1 := tc_lookup
  have f2 := tc_bind (.ref C)
  have isT : (⟨h, g, d, t, os⟩ : Shared).TypeIs (.ref C) "type" := ⟨_, at_, rfl⟩
  refine codeAny_of_tree ?_
  show wpAny _ _ (callAny (.ref C) _) _ _ _
  repeat (any_goals (first | assumption | with_reducible refine wpAny_loadPart_at at_ ?_ | wp_step))
  refine ⟨rfl, codeAny_call_builtin_at (Code.quiet_builtin _ (by decide +kernel)) entry_typeCall (wpAny_check_type_call_sub at_ (made_kw F same at_ hi hb (codeAny_mono ho fun r s' z => ?_)))⟩
  rcases r with e | (v | _ | _ | _) <;> exact z
end
end PySem.XV

set_option Elab.async false
set_option linter.all false
set_option maxRecDepth 100000
set_option maxHeartbeats 4000000
namespace PSG
open PySem PySem.Spec L2
open PyProof.Rows (IntsAre AllBare)
/-- what the written part says of an own exception class at C, whose __init__ is the def at fI -/
structure Xk (K : PySem.W.Frag) (C fI : Addr) (B newId initId : String) (bmB : List Value) : Prop where
  fb : ExcBaseFacts B newId initId bmB
  sf : StoreFacts B bmB "object.__setattr__" "object"
  made : PySem.W.excInitIn K C bmB newId = true
  over : PySem.W.excOver K C bmB = true
  dict : PySem.W.hasDictIn K C = true
  set : PySem.W.findIn K (.ref C) "__setattr__" = some (some (.builtin "object.__setattr__"))
  init : PySem.W.findIn K (.ref C) "__init__" = some (some (.ref fI))
  fn : PySem.W.typeIn K (.ref fI) = some (.type "function")
  keep : PySem.W.keepIn K (.ref C) = true
  exc : PySem.W.subIn K (.ref C) (.type "BaseException") = some true
  ty : PySem.W.typeIn K (.ref C) = some (.type "type")
/-- at a: an exception of the class at C with these attributes (the last one stored first) -/
def ExV (H : Hp) (a C : Addr) (fs : List (Str × V)) : Prop :=
  (fs = [] ∧ H a = some (exo a C none)) ∨ ∃ d, fs ≠ [] ∧ H a = some (exo a C (some d)) ∧ H d = some (exd d fs)
theorem ExV.same {H H' : Hp} {a C : Addr} {fs : List (Str × V)} (x : ExV H a C fs) (s : Same H H') : ExV H' a C fs := by
  rcases x with ⟨e, h⟩ | ⟨d, e, h, h2⟩
  · exact .inl ⟨e, s _ _ h⟩
  · exact .inr ⟨d, e, s _ _ h, s _ _ h2⟩
end PSG
namespace PySem.XV
open PySem PySem.Spec PySem.W PySem.Calls PySem.HandSPX Builtin Builtin.ObjectAttr
section
variable {prog : Program} {w : World} {A : Around} {E : Value → Shared → Prop} {R : Result → Shared → Prop} {hp : Heap} {g : Array GenState} {d : Drawn} {t : Nat} {os : OsState}
/-- self.name = v, the first one -/
theorem store_first {K : W.Frag} {B : String} {bmB : List Value} {name : Str} {tk : Tok} {v : Value} {x C : Addr} {fv : Array Value} (SF : StoreFacts B bmB "object.__setattr__" "object") (ov : excOver K C bmB = true) (hd : hasDictIn K C = true)
    (X : K.In hp) (hx : hp.get? x = some { cls := .ref C, data := .fields fv }) (ha : W.findIn K (.ref C) name = some none)
    (hq : ∀ h' tk' dx, (∀ b o, b ≠ x → hp.get? b = some o → h'.get? b = some o) → hp.objs.size ≤ dx → dx ≠ x → h'.get? x = some { cls := .ref C, dict := some dx, data := .fields fv } →
      h'.Ns1 dx (fun y => if y = name then some v else none) → R (.ok (.ret .none)) ⟨h', g, d, tk', os⟩) :
    codeAny (model prog w) A (.call (.builtin "object.__setattr__") ⟨[.ref x, .str name tk, v], []⟩) R ⟨hp, g, d, t, os⟩ := by
  have I : W.InstAt hp x { cls := .ref C, data := .fields fv } C none := ⟨hx, rfl, rfl, trivial⟩
  have ne : x ≠ hp.objs.size := Nat.ne_of_lt (Heap.lt_size hx)
  have tak : takerIn K C name = some none := by unfold takerIn; rw [ha]; rfl
  obtain ⟨cd, hcd, hh⟩ := any_some hd
  refine osa_openX SF X I ov tak fun b => ?_
  have lc : W.Looks (model prog w) hp (classData C) cd := W.looks_clsIn X hcd
  obtain ⟨nm, bs, mro, ns, qn, hdd, sn, sb, ab, col, del⟩ := cd
  dsimp only at hh
  subst hh
  show wpAny _ _ (storeInOwnDict (.ref x) (.ref C) (.str name tk) name v b) _ _ _
  unfold storeInOwnDict
  unfold ownDictForStores
  repeat (first
    | with_reducible refine store_in_new ?_ ?_
    | with_reducible refine wpAny_loadPart_at hx ?_
    | with_reducible refine lc.at ?_
    | wp_step)
  · exact ⟨_, #[], _, (Heap.get?_update_ne _ _ _ _ ne.symm).trans (Heap.get?_push_at rfl rfl), rfl, fun e he => absurd he (by simp), fun _ => rfl⟩
  · intro h' tk' hn' hs
    have hx1 : (hp.push { cls := .type "dict", data := .dict #[] }).get? x = some { cls := .ref C, data := .fields fv } := Heap.get?_push_of_some _ hx
    refine hq h' tk' hp.objs.size (fun c o hc ho => ?_) (Nat.le_refl _) ne.symm ((hs.2 x ne).trans (Heap.get?_update_self _ hx1 rfl)) hn'
    exact (hs.2 c (Nat.ne_of_lt (Heap.lt_size ho))).trans ((Heap.get?_update_ne _ _ _ _ hc).trans (Heap.get?_push_of_some _ ho))
/-- self.name = v, a further one -/
theorem store_next {K : W.Frag} {B : String} {bmB : List Value} {name : Str} {tk : Tok} {v : Value} {x C dx : Addr} {fv : Array Value} {m0 : Str → Option Value} {nl : List Str} (SF : StoreFacts B bmB "object.__setattr__" "object") (ov : excOver K C bmB = true) (hd : hasDictIn K C = true)
    (X : K.In hp) (hx : hp.get? x = some { cls := .ref C, dict := some dx, data := .fields fv }) (hns : hp.Ns1 dx m0) (hw : Within m0 nl) (hz : nl.length ≤ 1000) (ha : W.findIn K (.ref C) name = some none)
    (hq : ∀ h' tk', (∀ b o, b ≠ dx → hp.get? b = some o → h'.get? b = some o) → h'.Ns1 dx (fun y => if y = name then some v else m0 y) → R (.ok (.ret .none)) ⟨h', g, d, tk', os⟩) :
    codeAny (model prog w) A (.call (.builtin "object.__setattr__") ⟨[.ref x, .str name tk, v], []⟩) R ⟨hp, g, d, t, os⟩ := by
  obtain ⟨oD, _, _, hoD, _, _⟩ := hns.count hw
  have I : W.InstAt hp x { cls := .ref C, dict := some dx, data := .fields fv } C (some oD) := ⟨hx, rfl, rfl, hoD⟩
  have tak : takerIn K C name = some none := by unfold takerIn; rw [ha]; rfl
  obtain ⟨cd, hcd, hh⟩ := any_some hd
  refine osa_openX SF X I ov tak fun b => ?_
  have lc : W.Looks (model prog w) hp (classData C) cd := W.looks_clsIn X hcd
  obtain ⟨nm, bs, mro, ns, qn, hdd, sn, sb, ab, col, del⟩ := cd
  dsimp only at hh
  subst hh
  show wpAny _ _ (storeInOwnDict (.ref x) (.ref C) (.str name tk) name v b) _ _ _
  unfold storeInOwnDict
  unfold ownDictForStores
  repeat (first
    | with_reducible refine PySem.OEX.store_in_old hns hw hz ?_
    | with_reducible refine wpAny_loadPart_at hx ?_
    | with_reducible refine lc.at ?_
    | wp_step)
  exact fun h' tk' hn' hs => hq h' tk' (fun c o hc ho => (hs.2 c hc).trans ho) hn'
end
end PySem.XV
namespace PSG
open PySem PySem.Spec L2
open PyProof.Rows (IntsAre AllBare)
section
variable {X : Cx} {pins : List (Addr × Obj)} {σ : L2.St} {H : Hp} {s : Shared} {a C fI dx : Addr} {f : Str} {y : V} {u : Value} {fs : List (Str × V)} {Q : Unit → Shared → Prop} {E : Value → Shared → Prop} {A : Around} {B newId initId : String} {bmB : List Value}
theorem xset_first (T : Xk X.K C fI B newId initId bmB) (I : Inv X pins σ H s) (e : H a = some (exo a C none)) (no : PySem.W.findIn X.K (.ref C) f = some none) (ry : RelV y u)
    (ho : ∀ dx s', H dx = none → dx ≠ a → Inv X pins σ (upd (upd H dx (exd dx [(f, y)])) a (exo a C (some dx))) s' → Q () s') : wpAny (model X.prog X.w) A (setAttr (.ref a) f u) Q E s := by
  obtain ⟨t1, ob⟩ := exo_at I.hok e
  obtain ⟨hp, g, d, t, os⟩ := s
  refine PySem.W.set_plain I.kIn (ox := { cls := .ref C, dict := none, data := .fields #[.ref t1, .none, .none, .none, .bool false, .none] }) (od := none) ⟨ob, rfl, rfl, trivial⟩ T.set ?_
  refine PySem.XV.store_first T.sf T.over T.dict I.kIn ob no fun h' tk' dx k dn dne hx hn => ?_
  have free : H dx = none := I.hok.fresh dn
  have old : ∀ {b : Addr} {o : Obj}, hp.get? b = some o → b ≠ dx := fun {b o} q => Nat.ne_of_lt (Nat.lt_of_lt_of_le (Heap.lt_size q) dn)
  have off : ∀ {b : Addr}, H b = none → b ≠ a := fun {b} n z => by
    rw [z, e] at n
    cases n
  refine ho dx _ free dne (I.un (t' := tk') ?_ fun b o q => ?_)
  · exact {
      keep := fun b o q n _ _ => k b o (off n) q
      slot := fun b o q n _ _ => ⟨o.slots, k b o (off n) q⟩
      free := fun b o q n _ => (upd_ne (off n)).trans ((upd_ne (old q)).trans n)
      there := fun b o q _ => if hb : b = a then ⟨_, hb ▸ hx⟩ else ⟨o, k b o hb q⟩
      tups := fun b xs q => (upd_ne (at_ne e q exo_tup)).trans ((upd_ne (ne_of_none q free)).trans q)
      frzs := fun b o v q => (upd_ne (at_ne e q exo_frz)).trans ((upd_ne (ne_of_none q free)).trans q)
      tbls := fun b ps q => ⟨#[], by rw [upd_ne (at_ne e q exo_tbl), upd_ne (ne_of_none q free), q]; simp⟩ }
  · by_cases hb : b = a
    · rw [hb, upd_same] at q
      cases q
      rw [hb]
      exact exo_ok hx
    · rw [upd_ne hb] at q
      by_cases hd : b = dx
      · rw [hd, upd_same] at q
        cases q
        rw [hd]
        exact exd_ok hn (relO_put (fs := []) ry fun _ => True.intro)
      · rw [upd_ne hd] at q
        refine (I.hok b o q).stay (fun c v hc z => k c v ?_ z) (fun c hc => ?_) fun c xs hc => ?_
        · rcases hc with hc | hc
          · rw [hc]
            exact hb
          · exact at_ne e hc exo_own
        · rw [upd_ne (at_ne e hc exo_own), upd_ne (ne_of_none hc free)]
          exact hc
        · rw [upd_ne (at_ne e hc exo_tup), upd_ne (ne_of_none hc free)]
          exact hc
theorem xset_next (T : Xk X.K C fI B newId initId bmB) (I : Inv X pins σ H s) (e : H a = some (exo a C (some dx))) (ed : H dx = some (exd dx fs)) (hl : fs.length ≤ 900) (no : PySem.W.findIn X.K (.ref C) f = some none) (ry : RelV y u)
    (ho : ∀ s', Inv X pins σ (upd H dx (exd dx ((f, y) :: fs))) s' → Q () s') : wpAny (model X.prog X.w) A (setAttr (.ref a) f u) Q E s := by
  obtain ⟨t1, ob⟩ := exo_at I.hok e
  obtain ⟨mA, hns, rel⟩ := exd_at I.hok ed
  have hw := within_of rel
  obtain ⟨hp, g, d, t, os⟩ := s
  obtain ⟨oD, _, _, hoD, _, _⟩ := hns.count hw
  refine PySem.W.set_plain I.kIn (ox := { cls := .ref C, dict := some dx, data := .fields #[.ref t1, .none, .none, .none, .bool false, .none] }) (od := some oD) ⟨ob, rfl, rfl, hoD⟩ T.set ?_
  refine PySem.XV.store_next T.sf T.over T.dict I.kIn ob hns hw (by rw [List.length_map]; omega) no fun h' tk' k hn => ?_
  have hd : ∃ o, h'.get? dx = some o := by
    obtain ⟨o, _, _, e', _⟩ := hn
    exact ⟨o, e'⟩
  exact ho _ (I.write (t' := tk') (x := dx) (e := dx) (o := exd dx ((f, y) :: fs)) (by rw [ed]; exact True.intro) (.inl rfl) k hd (exd_ok hn (relO_put ry rel)))
end
/-- self.f = e in such an __init__ -/
def tXset (K : PySem.W.Frag) (f : Str) (to te : TE) : TS := fun D σ H => te σ H fun y H1 => to σ H1 fun x H2 => ∃ (a C fI : Addr) (B newId initId : String) (bmB : List Value), x = .ref a ∧ Xk K C fI B newId initId bmB ∧ PySem.W.findIn K (.ref C) f = some none ∧
  ((H2 a = some (exo a C none) ∧ ∀ dx, H2 dx = none → dx ≠ a → D.nx σ (upd (upd H2 dx (exd dx [(f, y)])) a (exo a C (some dx)))) ∨
    ∃ (dx : Addr) (fs : List (Str × V)), H2 a = some (exo a C (some dx)) ∧ H2 dx = some (exd dx fs) ∧ fs.length ≤ 900 ∧ D.nx σ (upd H2 dx (exd dx ((f, y) :: fs))))
section
variable {X : Cx} {o e : Expr} {to te : TE} {f : Str} {p' pos : Pos}
theorem ps_xset (ho : PE X o to) (he : PE X e te) (hs : swapsWith e (some (.Attribute o f p')) pos.line X.env = pure false := by rfl) : PS X (.Assign [.Attribute o f p'] e pos) (tXset X.K f to te) where
  run := fun pins s σ H D I h => by
    refine plainObj_wpAny_Assign_Attribute (thn (he.run pins s σ H _ I h) fun v s1 ⟨y, H1, I1, r1, q1⟩ => thn (ho.run pins s1 σ H1 _ I1 q1) fun u s2 ⟨x, H2, I2, r2, a, C, fI, B, newId, initId, bmB, ex, T, no, q⟩ => ?_) hs
    subst ex
    cases r2
    rcases q with ⟨ea, q⟩ | ⟨dx, fs, ea, ed, hl, q⟩
    · exact xset_first T I2 ea no r1 fun dx s' n ne J => ⟨σ, _, J, q dx n ne⟩
    · exact xset_next T I2 ea ed hl no r1 fun s' J => ⟨σ, _, J, q⟩
end
/-! ### the promise of such an __init__, and the call of the class -/
/-- the attributes fn of the new exception are the arguments -/
def spXI (C : Addr) (fn : List Str) : Sp := fun vs H Q _ => ∃ (a : Addr) (ws : List V), vs = .ref a :: ws ∧ ws.length = fn.length ∧ H a = some (exo a C none) ∧
  ∀ H2, (∀ b o, b ≠ a → H b = some o → H2 b = some o) → ExV H2 a C (fn.zip ws).reverse → Q .non H2
def tXmk (C : Addr) (fn : List Str) (t : TA) : TE := fun σ H Q => t σ H fun vs H1 => vs.length = fn.length ∧ fn.length ≤ 1000 ∧ ∀ a H2, H1 a = none → Same H1 H2 → ExV H2 a C (fn.zip vs).reverse → Q (.ref a) H2
section
variable {X : Cx} {CT : CXT} {x : Str} {C fI : Addr} {n : Nat} {fd : FuncData} {ps fn : List Str} {B newId initId : String} {bmB : List Value} {p pos : Pos}
/-- the new object, its __init__ called, tracked -/
theorem xmade {pins : List (Addr × Obj)} {σ : L2.St} {H1 : Hp} {hp : Heap} {g : Array GenState} {dr : Drawn} {tk : Nat} {os : OsState} {Q : VK} {args : Args} {us : List Value} {vs : List V} (T : Xk X.K C fI B newId initId bmB)
    (F : FnOk X.prog X.w X.K X.mg X.base CX0 n fI fd ps (spXI C fn)) (room : Room (n + 1) X.A) (I1 : Inv X pins σ H1 ⟨hp, g, dr, tk, os⟩) (lay : List Value) (kw : List (Str × Value))
    (bi : ∀ s : Shared, X.K.In s.heap → BindsTo s fd args (ps.zip (.ref (hp.objs.size + 1) :: us))) (va : Vals vs us) (len : vs.length = fn.length)
    (ho : ∀ a H2, H1 a = none → Same H1 H2 → ExV H2 a C (fn.zip vs).reverse → Q (.ref a) H2) :
    codeAny (model X.prog X.w) (X.A.under (.builtin "type.__call__" ⟨.ref C :: lay, kw⟩)) (.call (.ref fI) args)
      (PySem.W.InitBack (hp.objs.size + 1) fun r s' => match r with | .ok (.ret v) => EP X pins σ Q v s' | .ok _ => False | .error e => X.xe e s')
      ⟨(hp.push (PySem.W.kdv_tup lay)).push (PySem.HandSPX.excO C hp.objs.size), g, dr, tk, os⟩ := by
  have big : hp.objs.size ≤ hp.objs.size + 1 := Nat.le_succ _
  have free : H1 (hp.objs.size + 1) = none := I1.hok.fresh big
  have old : ∀ b o, hp.get? b = some o → ((hp.push (PySem.W.kdv_tup lay)).push (PySem.HandSPX.excO C hp.objs.size)).get? b = some o := fun b o e => Heap.get?_push_of_some _ (Heap.get?_push_of_some _ e)
  have new : ((hp.push (PySem.W.kdv_tup lay)).push (PySem.HandSPX.excO C hp.objs.size)).get? (hp.objs.size + 1) = some (PySem.HandSPX.excO C hp.objs.size) := by heap_get
  have I2 : Inv X pins σ (upd H1 (hp.objs.size + 1) (exo (hp.objs.size + 1) C none)) ⟨(hp.push (PySem.W.kdv_tup lay)).push (PySem.HandSPX.excO C hp.objs.size), g, dr, tk, os⟩ :=
    I1.laid (t' := tk) (a := hp.objs.size + 1) (o := exo (hp.objs.size + 1) C none) (h' := (hp.push (PySem.W.kdv_tup lay)).push (PySem.HandSPX.excO C hp.objs.size)) old big (exo_ok new)
  have va2 : Vals (V.ref (hp.objs.size + 1) :: vs) (Value.ref (hp.objs.size + 1) :: us) := .cons rfl va
  refine codeAny_mono (F.run _ X.stack _ _ args (Value.ref (hp.objs.size + 1) :: us) _ (fun v H2 => v = .non ∧ Q (.ref (hp.objs.size + 1)) H2) (fun _ _ _ => False) (room.make C lay kw) (I2.env0.make C lay kw) (bi _ I2.kIn) va2
    ⟨_, vs, rfl, len, upd_same, fun H2 k ex => ⟨rfl, ho _ H2 free (fun b o e => ?_) ex⟩⟩) fun r s' z => ?_
  · have nb : b ≠ hp.objs.size + 1 := ne_of_none e free
    exact k b o nb ((upd_ne nb).trans e)
  · match r, z with
    | .ok (.ret u), z =>
      obtain ⟨v, G, J, rel, ev, q⟩ := I2.after z
      subst ev
      exact ⟨rel, .ref (hp.objs.size + 1), G, J, rfl, q⟩
    | .ok .next, z => exact z.elim
    | .ok .brk, z => exact z.elim
    | .ok .cont, z => exact z.elim
    | .error er, z => exact z.elim
theorem pe_xmk {e : Expr} {es : List Expr} {t : TA} (T : Xk X.K C fI B newId initId bmB) (F : FnOk X.prog X.w X.K X.mg X.base CX0 n fI fd ps (spXI C fn)) (room : Room (n + 1) X.A) (bi : Binds X.K fd ps []) (hps : ps.length = fn.length + 1)
    (hg : Gl X x) (hm : X.mg x = some (.ref C)) (ha : PA X (e :: es) t) (nd : (x == ("__debug__" : Str)) = false := by decide)
    (se : starEach (e :: es) X.env = (false, eval e X.env) :: starEach es X.env := by rfl) (sn : (backTo pos (starEach es X.env)).any (·.1) = false := by rfl) :
    PE X (.Call (.Name x p) (e :: es) [] pos) (tXmk C fn t) where
  run := fun pins s σ H Q I h => by
    refine wpAny_Call_Name_kw (ld_glob I hg hm ?_ nd)
    refine PySem.W.callWith_K (h₀ := X.base) I.ok.mod.kin T.keep (thn (ha.run pos pins s σ H _ I h) fun us s1 ⟨vs, H1, I1, r1, hl, hz, q1⟩ => ⟨I1.kIn, ?_⟩) se sn
    show wpAny _ _ (call (.ref C) us) _ _ _
    obtain ⟨hp, g, dr, tk, os⟩ := s1
    obtain ⟨nm, N, qn, bs, bm, hdct, sn, sub, ab, col, dd, k0, k1, k2, k3, k5, hC, same⟩ := PySem.W.excInit_of I1.kIn T.made
    have lu : us.length = fn.length := r1.length.symm.trans hl
    refine wpAny_call (PySem.HandSPX.call_own T.fb same hC (PySem.W.looks_findIn I1.kIn T.init) (fun self => PySem.W.bind_fn I1.kIn self T.fn) (by rw [sizeLine_eq]; omega) ?_)
    refine codeAny_mono (xmade (Q := Q) T F room I1 us [] (args := ⟨Value.ref (hp.objs.size + 1) :: us, []⟩) (us := us) (fun s2 k2 => ?_) r1 hl q1) fun r s' z => ?_
    · have z := bi s2 (Value.ref (hp.objs.size + 1) :: us) k2 (by rw [List.append_nil, List.length_cons, lu, hps])
      rw [List.append_nil] at z
      exact z
    · exact z
theorem pe_xmk0 (T : Xk X.K C fI B newId initId bmB) (F : FnOk X.prog X.w X.K X.mg X.base CX0 n fI fd ps (spXI C [])) (room : Room (n + 1) X.A) (bi : Binds X.K fd ps []) (hps : ps.length = 1)
    (hg : Gl X x) (hm : X.mg x = some (.ref C)) (nd : (x == ("__debug__" : Str)) = false := by decide) : PE X (.Call (.Name x p) [] [] pos) (tXmk C [] tNil) where
  run := fun pins s σ H Q I h => by
    refine wpAny_Call_Name_kw (ld_glob I hg hm ?_ nd)
    refine PySem.W.callWith_K0 I.kIn T.keep ?_
    obtain ⟨hp, g, dr, tk, os⟩ := s
    obtain ⟨nm, N, qn, bs, bm, hdct, sn, sub, ab, col, dd, k0, k1, k2, k3, k5, hC, same⟩ := PySem.W.excInit_of I.kIn T.made
    refine wpAny_call (PySem.HandSPX.call_own T.fb same hC (PySem.W.looks_findIn I.kIn T.init) (fun self => PySem.W.bind_fn I.kIn self T.fn) (Nat.zero_le _) ?_)
    refine codeAny_mono (xmade (Q := Q) (vs := []) T F room I [] [] (args := ⟨[Value.ref (hp.objs.size + 1)], []⟩) (us := []) (fun s2 k2 => ?_) .nil rfl h.2.2) fun r s' z => z
    have z := bi s2 [Value.ref (hp.objs.size + 1)] k2 (by rw [List.append_nil, hps]; rfl)
    exact z
/-- C(k = v, ..), keywords alone -/
theorem pe_xmkK {kws : List Keyword} {ks : List Str} {t : TA} (T : Xk X.K C fI B newId initId bmB) (F : FnOk X.prog X.w X.K X.mg X.base CX0 n fI fd ps (spXI C fn)) (room : Room (n + 1) X.A)
    (bi : ∀ (s : Shared) (u : Value) (ws : List Value), X.K.In s.heap → ws.length = ks.length → BindsTo s fd ⟨[u], ks.zip ws⟩ (ps.zip (u :: ws))) (lk : ks.length = fn.length)
    (hg : Gl X x) (hm : X.mg x = some (.ref C)) (ha : PK X kws t) (hall : (backToKw pos (keywordEach kws X.env)).all (·.1.isSome) = true := by rfl) (hks : (backToKw pos (keywordEach kws X.env)).filterMap (·.1) = ks := by rfl)
    (nd : (x == ("__debug__" : Str)) = false := by decide) (sn : ((backTo pos (starEach [] X.env)).any (·.1) || (backToKw pos (keywordEach kws X.env)).any (·.1.isNone)) = false := by rfl) :
    PE X (.Call (.Name x p) [] kws pos) (tXmk C fn t) where
  run := fun pins s σ H Q I h => by
    refine wpAny_Call_Name_kw (ld_glob I hg hm ?_ nd)
    refine PySem.W.callWith_KW0 (h₀ := X.base) I.ok.mod.kin T.keep hall (thn (ha.run pos pins s σ H _ I h) fun ws s1 ⟨vs, H1, I1, r1, hl, hz, q1⟩ => ⟨I1.kIn, ?_⟩) sn
    rw [hks]
    show wpAny _ _ (call (.ref C) [] (ks.zip ws)) _ _ _
    obtain ⟨hp, g, dr, tk, os⟩ := s1
    obtain ⟨nm, N, qn, bs, bm, hdct, sn, sub, ab, col, dd, k0, k1, k2, k3, k5, hC, same⟩ := PySem.W.excInit_of I1.kIn T.made
    have lu : ws.length = ks.length := (r1.length.symm.trans hl).trans lk.symm
    refine wpAny_call (PySem.XV.call_kw T.fb same hC (PySem.W.looks_findIn I1.kIn T.init) (fun self => PySem.W.bind_fn I1.kIn self T.fn) ?_)
    exact codeAny_mono (xmade (Q := Q) T F room I1 [] (ks.zip ws) (args := ⟨[Value.ref (hp.objs.size + 1)], ks.zip ws⟩) (us := ws) (fun s2 k2 => bi s2 _ ws k2 lu) r1 hl q1) fun r s' z => z
end
end PSG

set_option Elab.async false
set_option linter.all false
set_option maxRecDepth 100000
set_option maxHeartbeats 4000000
namespace PSG
open PySem PySem.Spec L2
open PyProof.Rows (IntsAre AllBare)
section
variable {X : Cx} {pins : List (Addr × Obj)} {σ : L2.St} {H : Hp} {s : Shared} {a C : Addr} {fs : List (Str × V)}
theorem exv_inst (I : Inv X pins σ H s) (x : ExV H a C fs) : ∃ ox od, PySem.W.InstAt s.heap a ox C od ∧ ((fs = [] ∧ od = none) ∨ ∃ dx o, od = some o ∧ H dx = some (exd dx fs) ∧ s.heap.get? dx = some o) := by
  rcases x with ⟨e, h⟩ | ⟨d, e, h, h2⟩
  · obtain ⟨t1, ob⟩ := exo_at I.hok h
    exact ⟨_, none, ⟨ob, rfl, rfl, trivial⟩, .inl ⟨e, rfl⟩⟩
  · obtain ⟨t1, ob⟩ := exo_at I.hok h
    obtain ⟨mA, hns, rel⟩ := exd_at I.hok h2
    obtain ⟨o, ho, _⟩ := lookIn_ns hns
    exact ⟨_, some o, ⟨ob, rfl, rfl, ho⟩, .inr ⟨d, o, rfl, h2, ho⟩⟩
/-- e.n, e an exception that stands -/
def tXfld (K : PySem.W.Frag) (n : Str) (te : TE) : TE := fun σ H Q => te σ H fun x H1 => ∃ (a C : Addr) (fs : List (Str × V)) (v : V), x = .ref a ∧ ExV H1 a C fs ∧ PySem.W.XcC K C ∧ PySem.W.findIn K (.ref C) n = some none ∧ fs.lookup n = some v ∧ Q v H1
theorem pe_xfld {e : Expr} {te : TE} {pos : Pos} {n : Str} (he : PE X e te) (hb : attributeBase e n X.env (eval e X.env) = eval e X.env := by rfl) : PE X (.Attribute e n pos) (tXfld X.K n te) where
  run := fun pins s σ H Q I h => by
    refine attr_of hb (thn (he.run pins s σ H _ I h) fun u s1 hh => ?_)
    obtain ⟨x, H1, I1, rx, a, C, fs, v, ex, V1, T, no, l, q⟩ := hh
    subst ex
    cases rx
    rcases V1 with ⟨e, h1⟩ | ⟨d, _, h1, h2⟩
    · rw [e] at l
      cases l
    · obtain ⟨t1, ob⟩ := exo_at I1.hok h1
      obtain ⟨mA, hns, rel⟩ := exd_at I1.hok h2
      obtain ⟨o, ho, look⟩ := lookIn_ns hns
      obtain ⟨w, hw, rw_⟩ := RelO.some_of (v := v) (o := mA n) (by rw [← l]; exact rel n)
      have J : PySem.W.InstAt s1.heap a _ C (some o) := ⟨ob, rfl, rfl, ho⟩
      exact PySem.HandSPX.exc_get I1.kIn J T.get T.get2 T.exc (PySem.W.findObj_own T.dict no rfl (by rw [look, hw])) (handed_of rw_) ⟨v, H1, I1.tok _, rw_, q⟩
/-- isinstance(e, c), e an exception that stands -/
def rXis (K : PySem.W.Frag) : List V → Hp → VK → Prop := fun xs H Q => ∃ (a C : Addr) (fs : List (Str × V)) (c : V) (u : Value) (b : Bool), xs = [.ref a, c] ∧ ClsV c u ∧ ExV H a C fs ∧ PySem.W.XcC K C ∧ PySem.W.kitOne K (.ref C) u = some b ∧ Q (.bl b) H
theorem call_xis : CallR X (.builtin "isinstance") (rXis X.K) := by
  intro pins s σ H xs us Q I r h
  obtain ⟨a, C, fs, c, u, b, rfl, k, x, T, e, q⟩ := h
  obtain ⟨u1, u2, rfl, r1, r2⟩ := vals2 r
  cases r1
  have e2 := k.eq r2
  subst e2
  obtain ⟨ox, od, J, _⟩ := exv_inst I x
  exact PySem.W.kia_one (T.kit (x := a) (ox := ox)) I.kIn ⟨od, J⟩ e (fun z => nomatch z) fun tk => ⟨.bl b, H, I.tok tk, rfl, q⟩
end
/-! ### lists that are new: not sys.modules -/
def tLstF (t : TA) : TE := fun σ H Q => t σ H fun xs H1 => xs.length ≤ sizeLine ∧ ∀ p, H1 p = none → p ≠ sysModules → Q (.ref p) (upd H1 p (.lst xs))
def rCatF : R2 := fun x y H Q => ∃ l b xs zs, x = .ref l ∧ y = .ref b ∧ H l = some (.lst xs) ∧ H b = some (.lst zs) ∧ xs.length + zs.length ≤ sizeLine ∧ ∀ p, H p = none → p ≠ sysModules → Q (.ref p) (upd H p (.lst (xs ++ zs)))
section
variable {X : Cx}
theorem pe_lstF {es : List Expr} {t : TA} {pos : Pos} (h : PA X es t) : PE X (.List es pos) (tLstF t) where
  run := fun pins s σ H Q I ho => by
    refine wpAny_List (thn (h.run pos pins s σ H _ I ho) fun us s1 ⟨xs, H1, I1, r, hz, q⟩ => ?_)
    have hl := r.length
    have new : s1.heap.objs.size ≠ sysModules := Nat.ne_of_gt I1.big
    exact ⟨by omega, .ref s1.heap.objs.size, _, I1.lnew (t' := s1.toks) r hz, rfl, q _ I1.fresh new⟩
theorem op_catF : OpR X (binaryOp .Add) rCatF := by
  intro pins s σ H x y v u Q I rx ry ho
  obtain ⟨l, b, xs, zs, rfl, rfl, h1, h2, hz, q⟩ := ho
  cases rx
  cases ry
  obtain ⟨_, is, _, r, _, e⟩ := I.lstM h1
  obtain ⟨_, js, _, r2, _, e2⟩ := I.lstM h2
  have l1 := r.length
  have l2 := r2.length
  refine PySem.P.add_list e e2 ?_ (by rw [List.size_toArray, List.size_toArray]; omega)
  rw [show is.toArray ++ js.toArray = (is ++ js).toArray by simp]
  have new : s.heap.objs.size ≠ sysModules := Nat.ne_of_gt I.big
  exact ⟨.ref s.heap.objs.size, _, I.lnew (t' := s.toks) (r.append r2) (by rw [List.length_append]; omega), rfl, q _ I.fresh new⟩
end
/-! ### heaps, data, draws -/
/-- what is tracked now and was not then -/
def news (B H : Hp) : Hp := fun b => match B b with | none => H b | some _ => none
theorem news_at {B H : Hp} {b : Addr} {o : HO} (h : B b = none) (e : H b = some o) : news B H b = some o := by
  unfold news
  rw [h]
  exact e
theorem news_of {B H : Hp} {b : Addr} {o : HO} (e : news B H b = some o) : B b = none ∧ H b = some o := by
  unfold news at e
  cases q : B b with
  | none =>
    rw [q] at e
    exact ⟨rfl, e⟩
  | some u =>
    rw [q] at e
    cases e
theorem news_sub {B H : Hp} : Same (news B H) H := fun _ _ e => (news_of e).2
mutual
theorem Dt.same {far : Bool} {H H' : Hp} (s : Same H H') : ∀ {v : V} {d : PyData}, Dt far H v d → Dt far H' v d
  | _, _, .non => .non
  | _, _, .bl b => .bl b
  | _, _, .int i => .int i
  | _, _, .str x => .str x
  | _, _, .lst e f t => .lst (s _ _ e) f (DtAll.same s t)
  | _, _, .tup e t => .tup (s _ _ e) (DtAll.same s t)
  | _, _, .dict e p => .dict (s _ _ e) p
theorem DtAll.same {far : Bool} {H H' : Hp} (s : Same H H') : ∀ {vs : List V} {ds : List PyData}, DtAll far H vs ds → DtAll far H' vs ds
  | _, _, .nil => .nil
  | _, _, .cons h t => .cons (Dt.same s h) (DtAll.same s t)
end
theorem DtAll.length {far : Bool} {H : Hp} : ∀ {vs : List V} {ds : List PyData}, DtAll far H vs ds → vs.length = ds.length
  | _, _, .nil => rfl
  | _, _, .cons _ t => congrArg Nat.succ (DtAll.length t)
theorem DtAll.append {far : Bool} {H : Hp} : ∀ {vs ws : List V} {ds es : List PyData}, DtAll far H vs ds → DtAll far H ws es → DtAll far H (vs ++ ws) (ds ++ es)
  | _, _, _, _, .nil, h => h
  | _, _, _, _, .cons h t, h2 => .cons h (DtAll.append t h2)
theorem DtAll.get {far : Bool} {H : Hp} : ∀ {vs : List V} {ds : List PyData} {i : Nat} {v : V}, DtAll far H vs ds → vs[i]? = some v → ∃ d, ds[i]? = some d ∧ Dt far H v d
  | _, _, i, _, .nil, e => by simp at e
  | _, _, 0, _, .cons h _, e => by
    have e' := Option.some.inj e
    subst e'
    exact ⟨_, rfl, h⟩
  | _, _, i + 1, _, .cons _ t, e => DtAll.get (i := i) t e
/-- all but the object at r is as it was -/
def But (r : Addr) (H H' : Hp) : Prop := ∀ b o, b ≠ r → H b = some o → H' b = some o
theorem But.refl {r : Addr} {H : Hp} : But r H H := fun _ _ _ e => e
theorem But.trans {r : Addr} {H H1 H2 : Hp} (a : But r H H1) (b : But r H1 H2) : But r H H2 := fun c o n e => b c o n (a c o n e)
theorem But.of {r : Addr} {H H' : Hp} (s : Same H H') : But r H H' := fun b o _ e => s b o e
theorem But.at {r : Addr} {H : Hp} {o : HO} : But r H (upd H r o) := fun b _ n e => (upd_ne n).trans e
theorem same_new {H : Hp} {p : Addr} {o : HO} (h : H p = none) : Same H (upd H p o) := fun b x e => (upd_ne (ne_of_none e h)).trans e
/-- at r: the two numbers that the draws are made of -/
def Rg (H : Hp) (r : Addr) : Prop := ∃ x y : Int, H r = some (.lst [.int x, .int y]) ∧ 0 ≤ x ∧ 0 ≤ y ∧ y < 2147483587
theorem Rg.some {H : Hp} {r : Addr} (g : Rg H r) : ∃ o, H r = some o := by
  obtain ⟨x, y, e, _⟩ := g
  exact ⟨_, e⟩
theorem Rg.new {H : Hp} {r p : Addr} {o : HO} (g : Rg H r) (h : H p = none) : Rg (upd H p o) r := by
  obtain ⟨x, y, e, z⟩ := g
  exact ⟨x, y, (upd_ne (ne_of_none e h)).trans e, z⟩
theorem Rg.same {H H' : Hp} {r : Addr} (g : Rg H r) (s : Same H H') : Rg H' r := by
  obtain ⟨x, y, e, z⟩ := g
  exact ⟨x, y, s _ _ e, z⟩
/-- what is new stays, where all that is not new may change -/
theorem news_but {B H H' : Hp} {r : Addr} (s : But r H H') (there : ∃ o, B r = some o) : Same (news B H) (news B H') := fun b o e => by
  obtain ⟨h1, h2⟩ := news_of e
  obtain ⟨u, hu⟩ := there
  exact news_at h1 (s b o (fun z => by rw [z, hu] at h1; cases h1) h2)
theorem news_up {B H H' : Hp} (d : ∀ b o, B b = some o → ∃ u, H b = some u) : Same (news H H') (news B H') := fun b o e => by
  obtain ⟨h1, h2⟩ := news_of e
  refine news_at ?_ h2
  cases q : B b with
  | none => rfl
  | some u =>
    obtain ⟨x, hx⟩ := d b u q
    rw [h1] at hx
    cases hx
theorem But.dom {r : Addr} {H H' : Hp} (s : But r H H') (g : ∃ o, H' r = some o) : ∀ b o, H b = some o → ∃ u, H' b = some u := fun b o e => by
  by_cases hb : b = r
  · rw [hb]
    exact g
  · exact ⟨o, s b o hb e⟩
/-- data with a short text, not deep -/
structure Nice (d : PyData) : Prop where
  sh : d.showable = true
  ln : d.shown.length ≤ 100
  dp : d.depth ≤ 6
end PSG

set_option Elab.async false
set_option linter.all false
set_option maxRecDepth 100000
set_option maxHeartbeats 4000000
/-! zip of two texts -/
namespace PSZ
open PySem
open PySem.Sem (wp)
section
variable {prog : Program} {w : World} {A : Around} {E : Value → Shared → Prop} {s : Shared}
def TextTy (ty : String) : Prop := ty = "str_ascii_iterator" ∨ ty = "str_iterator"
theorem text_item {ty : String} {p : Addr} {x : Str} {t : Tok} {i c : Nat} {Q : Value → Shared → Prop} (k : TextTy ty) (it : s.heap.IsStrIter p ty x t i) (e : x.cps[i]? = some c)
    (q : ∀ g, g.IsStrIter p ty x t (i + 1) → Heap.SameBut p s.heap g → Q (.str ⟨#[c]⟩ s.toks) { s with heap := g, toks := s.toks + 1 }) : wpAny (model prog w) A (Builtin.SmallTypes.nextOf (.ref p)) Q E s := by
  rcases k with rfl | rfl
  · exact wpAny_nextOf_ascii_item it e q
  · exact wpAny_nextOf_wide_item it e q
theorem text_end {ty : String} {p : Addr} {x : Str} {t : Tok} {i : Nat} {Q : Value → Shared → Prop} (k : TextTy ty) (hd : A.handled = none) (it : s.heap.IsStrIter p ty x t i) (e : x.cps[i]? = none)
    (q : ∀ g b, Heap.ExtBut p s.heap g → (∃ o, g.get? b = some o ∧ o.cls = .type "StopIteration") → E (.ref b) { s with heap := g }) : wpAny (model prog w) A (Builtin.SmallTypes.nextOf (.ref p)) Q E s := by
  rcases k with rfl | rfl
  · exact wpAny_nextOf_ascii_end hd it e q
  · exact wpAny_nextOf_wide_end hd it e q
theorem at_text {h h' : Heap} {p : Addr} {ty : String} {x : Str} {t : Tok} {i : Nat} (y : h.IsStrIter p ty x t i) (k : ∀ o, h.get? p = some o → h'.get? p = some o) : h'.IsStrIter p ty x t i :=
  let ⟨o, e, r⟩ := y
  ⟨o, k o e, r⟩
/-- a turn of zip over two texts that both have a further sign -/
theorem zipS_item {z TI TO i1 i2 l1 l2 : Addr} {ty1 ty2 : String} {x1 x2 : Str} {t1 t2 : Tok} {k1 k2 c1 c2 : Nat} {a b : Value} {Q : Value → Shared → Prop} (D : ZipApart z TI TO i1 i2 l1 l2) (y1 : TextTy ty1) (y2 : TextTy ty2)
    (hz : IsZip s.heap z TI TO .none) (hTI : IsPair s.heap TI (.ref i1) (.ref i2)) (hTO : IsPair s.heap TO a b) (h1 : s.heap.IsStrIter i1 ty1 x1 t1 k1) (h2 : s.heap.IsStrIter i2 ty2 x2 t2 k2)
    (e1 : x1.cps[k1]? = some c1) (e2 : x2.cps[k2]? = some c2)
    (q : ∀ g n u1 u2, IsZip g z TI TO (rawInt s.heap.objs.size) → (∃ a b, IsPair g TO a b) → g.IsStrIter i1 ty1 x1 t1 (k1 + 1) → g.IsStrIter i2 ty2 x2 t2 (k2 + 1) → IsPair g s.heap.objs.size (.str ⟨#[c1]⟩ u1) (.str ⟨#[c2]⟩ u2) →
      (∀ c o, c ≠ z → c ≠ TO → c ≠ i1 → c ≠ i2 → s.heap.get? c = some o → g.get? c = some o) → Q (.ref s.heap.objs.size) { s with heap := g, toks := n }) :
    wpAny (model prog w) A (Builtin.«zip.__next__» ⟨[.ref z], []⟩) (fun r s' => ∃ v, r = .done (.ret v) ∧ Q v s') E s := by
  show wpAny _ _ (field (.ref z) 2 >>= _) _ _ _
  refine wpAny_bind (wpAny_field hz rfl (x := .bool false) rfl ?_)
  show wpAny _ _ (field (.ref z) 3 >>= _) _ _ _
  refine wpAny_bind (wpAny_field hz rfl (x := .ref TI) rfl ?_)
  refine wpAny_bind (wpAny_seqItems hTI rfl ?_)
  show wpAny _ _ (Builtin.SmallTypes.ownedTupleIsFree (.ref z) >>= _) _ _ _
  refine wpAny_bind ?_
  unfold Builtin.SmallTypes.ownedTupleIsFree
  refine wpAny_bind (wpAny_field hz rfl (x := .none) rfl (wpAny_pure ?_))
  simp only [if_true]
  refine wpAny_bind (wpAny_rule ?_)
  refine wpAny_bind (wpAny_field hz rfl (x := .ref TO) rfl ?_)
  refine wpAny_bind (wpAny_setField_rec hz (by simp) fun g1 z1 s1 => ?_)
  replace z1 : IsZip g1 z TI TO .ellipsis := z1
  refine wpAny_bind ?_
  simp only [List.zipIdx_cons, List.zipIdx_nil, List.forIn_cons, List.forIn_nil]
  refine wpAny_bind (wpAny_bind (wpAny_onRaise ?_))
  show wpAny _ _ (Builtin.SmallTypes.nextOf (.ref i1) >>= _) _ _ _
  refine wpAny_bind (text_item y1 (h1.extBut s1.extBut D.i1z) e1 fun g2 it1 s2 => wpAny_pure ?_)
  have o2 : IsPair g2 TO a b := s2.extBut _ _ D.TOi1 (s1.extBut _ _ D.TOz hTO)
  refine wpAny_bind (wpAny_seqItems o2 rfl ?_)
  refine wpAny_bind (wpAny_updateSeq_pair o2 fun g3 o3 s3 => ?_)
  replace o3 : IsPair g3 TO (.str ⟨#[c1]⟩ s.toks) b := o3
  refine wpAny_bind (wpAny_letGo (wpAny_pure ?_))
  refine wpAny_bind (wpAny_bind (wpAny_onRaise ?_))
  show wpAny _ _ (Builtin.SmallTypes.nextOf (.ref i2) >>= _) _ _ _
  refine wpAny_bind (text_item y2 (((h2.extBut s1.extBut D.i2z).extBut s2.extBut D.i12.symm).extBut s3.extBut D.TOi2.symm) e2 fun g4 it2 s4 => wpAny_pure ?_)
  have o4 : IsPair g4 TO (.str ⟨#[c1]⟩ s.toks) b := s4.extBut _ _ D.TOi2 o3
  refine wpAny_bind (wpAny_seqItems o4 rfl ?_)
  refine wpAny_bind (wpAny_updateSeq_pair o4 fun g5 o5 s5 => ?_)
  replace o5 : IsPair g5 TO (.str ⟨#[c1]⟩ s.toks) (.str ⟨#[c2]⟩ (s.toks + 1)) := o5
  refine wpAny_bind (wpAny_letGo (wpAny_pure (wpAny_pure ?_)))
  refine wpAny_bind (wpAny_seqItems o5 rfl ?_)
  refine wpAny_bind (wpAny_newTuple ?_)
  have size : g5.objs.size = s.heap.objs.size := by rw [s5.1, s4.1, s3.1, s2.1, s1.1]
  have z5 : IsZip g5 z TI TO .ellipsis := s5.extBut _ _ D.TOz.symm (s4.extBut _ _ D.i2z.symm (s3.extBut _ _ D.TOz.symm (s2.extBut _ _ D.i1z.symm z1)))
  have keep : ∀ c o, c ≠ z → c ≠ TO → c ≠ i1 → c ≠ i2 → s.heap.get? c = some o → g5.get? c = some o := fun c o n1 n2 n3 n4 e =>
    s5.extBut _ _ n2 (s4.extBut _ _ n4 (s3.extBut _ _ n2 (s2.extBut _ _ n3 (s1.extBut _ _ n1 e))))
  have j1 : g5.IsStrIter i1 ty1 x1 t1 (k1 + 1) := ((it1.extBut s3.extBut D.TOi1.symm).extBut s4.extBut D.i12).extBut s5.extBut D.TOi1.symm
  have j2 : g5.IsStrIter i2 ty2 x2 t2 (k2 + 1) := it2.extBut s5.extBut D.TOi2.symm
  have lz : z < g5.objs.size := Heap.lt_size z5
  show wpAny _ _ (Builtin.SmallTypes.ownedTupleHandOut (.ref z) (.ref g5.objs.size) >>= _) _ _ _
  refine wpAny_bind ?_
  unfold Builtin.SmallTypes.ownedTupleHandOut
  have z6 : IsZip (g5.push { cls := .type "tuple", data := .seq #[.str ⟨#[c1]⟩ s.toks, .str ⟨#[c2]⟩ (s.toks + 1)] }) z TI TO .ellipsis := Heap.get?_push_of_some _ z5
  refine wpAny_bind (wpAny_setField_rec z6 (by simp) fun g7 z7 s7 => ?_)
  replace z7 : IsZip g7 z TI TO (rawInt g5.objs.size) := z7
  refine wpAny_setField_rec z7 (by simp) fun g8 z8 s8 => ?_
  replace z8 : IsZip g8 z TI TO (rawInt g5.objs.size) := z8
  have up : ∀ c o, c ≠ z → g5.get? c = some o → g8.get? c = some o := fun c o n e => s8.extBut _ _ n (s7.extBut _ _ n (Heap.get?_push_of_some _ e))
  have p8 : IsPair g8 g5.objs.size (.str ⟨#[c1]⟩ s.toks) (.str ⟨#[c2]⟩ (s.toks + 1)) := s8.extBut _ _ (Nat.ne_of_gt lz) (s7.extBut _ _ (Nat.ne_of_gt lz) (Heap.get?_push_size _ rfl))
  rw [size] at z8 p8
  refine wpAny_pure ⟨_, rfl, ?_⟩
  show Q (.ref g5.objs.size) _
  rw [size]
  exact q g8 _ _ _ z8 ⟨_, _, up _ _ D.TOz o5⟩ (at_text j1 fun o e => up _ o D.i1z e) (at_text j2 fun o e => up _ o D.i2z e) p8 fun c o n1 n2 n3 n4 e => up c o n1 (keep c o n1 n2 n3 n4 e)
/-- the turn at which one of the texts is at its end -/
theorem zipS_end {z TI TO i1 i2 l1 l2 : Addr} {ty1 ty2 : String} {x1 x2 : Str} {t1 t2 : Tok} {k1 k2 : Nat} {a b : Value} {Q : Fin → Shared → Prop} (hd : A.handled = none) (D : ZipApart z TI TO i1 i2 l1 l2) (y1 : TextTy ty1) (y2 : TextTy ty2)
    (hz : IsZip s.heap z TI TO .none) (hTI : IsPair s.heap TI (.ref i1) (.ref i2)) (hTO : IsPair s.heap TO a b) (h1 : s.heap.IsStrIter i1 ty1 x1 t1 k1) (h2 : s.heap.IsStrIter i2 ty2 x2 t2 k2)
    (fin : x1.cps[k1]? = none ∨ x2.cps[k2]? = none)
    (q : ∀ g n e, (∀ c o, c ≠ z → c ≠ TO → c ≠ i1 → c ≠ i2 → s.heap.get? c = some o → g.get? c = some o) → (∃ o, g.get? e = some o ∧ o.cls = .type "StopIteration") → E (.ref e) { s with heap := g, toks := n }) :
    wpAny (model prog w) A (Builtin.«zip.__next__» ⟨[.ref z], []⟩) Q E s := by
  show wpAny _ _ (field (.ref z) 2 >>= _) _ _ _
  refine wpAny_bind (wpAny_field hz rfl (x := .bool false) rfl ?_)
  show wpAny _ _ (field (.ref z) 3 >>= _) _ _ _
  refine wpAny_bind (wpAny_field hz rfl (x := .ref TI) rfl ?_)
  refine wpAny_bind (wpAny_seqItems hTI rfl ?_)
  show wpAny _ _ (Builtin.SmallTypes.ownedTupleIsFree (.ref z) >>= _) _ _ _
  refine wpAny_bind ?_
  unfold Builtin.SmallTypes.ownedTupleIsFree
  refine wpAny_bind (wpAny_field hz rfl (x := .none) rfl (wpAny_pure ?_))
  simp only [if_true]
  refine wpAny_bind (wpAny_rule ?_)
  refine wpAny_bind (wpAny_field hz rfl (x := .ref TO) rfl ?_)
  refine wpAny_bind (wpAny_setField_rec hz (by simp) fun g1 z1 s1 => ?_)
  replace z1 : IsZip g1 z TI TO .ellipsis := z1
  refine wpAny_bind ?_
  simp only [List.zipIdx_cons, List.zipIdx_nil, List.forIn_cons, List.forIn_nil]
  refine wpAny_bind (wpAny_bind (wpAny_onRaise ?_))
  show wpAny _ _ (Builtin.SmallTypes.nextOf (.ref i1) >>= _) _ _ _
  cases e1 : x1.cps[k1]? with
  | none =>
    refine wpAny_bind (text_end y1 hd (h1.extBut s1.extBut D.i1z) e1 fun g2 e s2 st => ?_)
    obtain ⟨oe, ge, ce⟩ := st
    have z2 : IsZip g2 z TI TO .ellipsis := s2 _ _ D.i1z.symm z1
    have nz : e ≠ z := fun x => by
      rw [x, z2] at ge
      cases ge
      simp at ce
    exact wpAny_setField_rec z2 (by simp) fun g3 _ s3 => q g3 _ e (fun c o n1 _ n3 _ x => s3.extBut _ _ n1 (s2 _ _ n3 (s1.extBut _ _ n1 x))) ⟨oe, s3.extBut _ _ nz ge, ce⟩
  | some c1 =>
    have e2 : x2.cps[k2]? = none := by
      rcases fin with h | h
      · rw [e1] at h
        cases h
      · exact h
    refine wpAny_bind (text_item y1 (h1.extBut s1.extBut D.i1z) e1 fun g2 it1 s2 => wpAny_pure ?_)
    have o2 : IsPair g2 TO a b := s2.extBut _ _ D.TOi1 (s1.extBut _ _ D.TOz hTO)
    refine wpAny_bind (wpAny_seqItems o2 rfl ?_)
    refine wpAny_bind (wpAny_updateSeq_pair o2 fun g3 o3 s3 => ?_)
    refine wpAny_bind (wpAny_letGo (wpAny_pure ?_))
    refine wpAny_bind (wpAny_bind (wpAny_onRaise ?_))
    show wpAny _ _ (Builtin.SmallTypes.nextOf (.ref i2) >>= _) _ _ _
    refine wpAny_bind (text_end y2 hd (((h2.extBut s1.extBut D.i2z).extBut s2.extBut D.i12.symm).extBut s3.extBut D.TOi2.symm) e2 fun g4 e s4 st => ?_)
    obtain ⟨oe, ge, ce⟩ := st
    have z4 : IsZip g4 z TI TO .ellipsis := s4 _ _ D.i2z.symm (s3.extBut _ _ D.TOz.symm (s2.extBut _ _ D.i1z.symm z1))
    have nz : e ≠ z := fun x => by
      rw [x, z4] at ge
      cases ge
      simp at ce
    exact wpAny_setField_rec z4 (by simp) fun g5 _ s5 => q g5 _ e (fun c o n1 n2 n3 n4 x => s5.extBut _ _ n1 (s4 _ _ n4 (s3.extBut _ _ n2 (s2.extBut _ _ n3 (s1.extBut _ _ n1 x))))) ⟨oe, s5.extBut _ _ nz ge, ce⟩
theorem next_zipS {z TI TO i1 i2 l1 l2 : Addr} {ty1 ty2 : String} {x1 x2 : Str} {t1 t2 : Tok} {k1 k2 c1 c2 : Nat} {a b : Value} {Q : Option Value → Shared → Prop} (D : ZipApart z TI TO i1 i2 l1 l2) (y1 : TextTy ty1) (y2 : TextTy ty2)
    (hz : IsZip s.heap z TI TO .none) (hTI : IsPair s.heap TI (.ref i1) (.ref i2)) (hTO : IsPair s.heap TO a b) (h1 : s.heap.IsStrIter i1 ty1 x1 t1 k1) (h2 : s.heap.IsStrIter i2 ty2 x2 t2 k2)
    (e1 : x1.cps[k1]? = some c1) (e2 : x2.cps[k2]? = some c2)
    (q : ∀ g n u1 u2, IsZip g z TI TO (rawInt s.heap.objs.size) → (∃ a b, IsPair g TO a b) → g.IsStrIter i1 ty1 x1 t1 (k1 + 1) → g.IsStrIter i2 ty2 x2 t2 (k2 + 1) → IsPair g s.heap.objs.size (.str ⟨#[c1]⟩ u1) (.str ⟨#[c2]⟩ u2) →
      (∀ c o, c ≠ z → c ≠ TO → c ≠ i1 → c ≠ i2 → s.heap.get? c = some o → g.get? c = some o) → Q (some (.ref s.heap.objs.size)) { s with heap := g, toks := n }) :
    wpAny (model prog w) A (pyNext (.ref z)) Q E s := by
  have ty : s.TypeIs (.ref z) "zip" := ⟨_, hz, rfl⟩
  unfold pyNext
  refine wpAny_bind (wpAny_attempt (wpAny_callSpecial?_slot (name := Str.ofString "__next__") ty F.slot_zip_next (wpAny_call_entry F.slot_zip_next ty F.entry_zip_next ?_ (F.args_zip_next_1 _))))
  exact zipS_item D y1 y2 hz hTI hTO h1 h2 e1 e2 fun g n u1 u2 p1 p2 p3 p4 p5 p6 => wpAny_pure (q g n u1 u2 p1 p2 p3 p4 p5 p6)
theorem next_zipS_end {z TI TO i1 i2 l1 l2 : Addr} {ty1 ty2 : String} {x1 x2 : Str} {t1 t2 : Tok} {k1 k2 : Nat} {a b : Value} {Q : Option Value → Shared → Prop} (hd : A.handled = none) (D : ZipApart z TI TO i1 i2 l1 l2) (y1 : TextTy ty1) (y2 : TextTy ty2)
    (hz : IsZip s.heap z TI TO .none) (hTI : IsPair s.heap TI (.ref i1) (.ref i2)) (hTO : IsPair s.heap TO a b) (h1 : s.heap.IsStrIter i1 ty1 x1 t1 k1) (h2 : s.heap.IsStrIter i2 ty2 x2 t2 k2)
    (fin : x1.cps[k1]? = none ∨ x2.cps[k2]? = none) (q : ∀ g n, (∀ c o, c ≠ z → c ≠ TO → c ≠ i1 → c ≠ i2 → s.heap.get? c = some o → g.get? c = some o) → Q none { s with heap := g, toks := n }) : wpAny (model prog w) A (pyNext (.ref z)) Q E s := by
  have ty : s.TypeIs (.ref z) "zip" := ⟨_, hz, rfl⟩
  unfold pyNext
  refine wpAny_bind (wpAny_attempt (wpAny_callSpecial?_slot (name := Str.ofString "__next__") ty F.slot_zip_next (wpAny_call_entry F.slot_zip_next ty F.entry_zip_next ?_ (F.args_zip_next_1 _))))
  refine zipS_end hd D y1 y2 hz hTI hTO h1 h2 fin fun g n e k st => ?_
  obtain ⟨o, ho, hc⟩ := st
  exact wpAny_bind (wpAny_isInstance (T := "StopIteration") (b := true) ⟨o, ho, hc⟩ isSubtype_stop (wpAny_pure (q g n k)))
end
end PSZ

set_option Elab.async false
set_option linter.all false
set_option maxRecDepth 100000
set_option maxHeartbeats 4000000
namespace PSZ
open PySem
open PySem.Sem (wp)
theorem textTy (x : Str) : TextTy (strIterType x) := by
  unfold strIterType
  split
  · exact .inl rfl
  · exact .inr rfl
def walker (x : Str) (t : Tok) : Obj := { cls := .type (strIterType x), data := .fields #[.str x t, .int 0 0] }
def two (a b : Value) : Obj := { cls := .type "tuple", data := .seq #[a, b] }
def pairs (h : Heap) (x y : Str) (t u : Tok) : Heap := (((h.push (walker x t)).push (walker y u)).push (two (.ref h.objs.size) (.ref (h.push (walker x t)).objs.size))).push (two .none .none)
def zipped (h : Heap) (x y : Str) (t u : Tok) : Heap :=
  (pairs h x y t u).push { cls := .type "zip", data := .fields #[.none, .bool false, .bool false, .ref ((h.push (walker x t)).push (walker y u)).objs.size, .ref (((h.push (walker x t)).push (walker y u)).push (two (.ref h.objs.size) (.ref (h.push (walker x t)).objs.size))).objs.size] }
theorem new_zipS (x y : Str) (t u : Tok) : Meets (Builtin.«zip.__new__» ⟨[.type "zip", .str x t, .str y u], []⟩) (fun _ R s => R (.ok (.ret (.ref (pairs s.heap x y t u).objs.size))) { s with heap := zipped s.heap x y t u }) :=
  .of_wp fun prog w A R s h => by
    obtain ⟨hp, g, d, tk, os⟩ := s
    have sub := sub_zip
    wp_walk using wpAny_pyIter_strU
    exact ⟨_, rfl, h⟩
section
variable {prog : Program} {w : World} {A : Around} {E : Value → Shared → Prop} {s : Shared}
theorem call_zipS {x y : Str} {t u : Tok} {Q : Value → Shared → Prop}
    (q : ∀ g, IsZip g (s.heap.objs.size + 4) (s.heap.objs.size + 2) (s.heap.objs.size + 3) .none → IsPair g (s.heap.objs.size + 2) (.ref s.heap.objs.size) (.ref (s.heap.objs.size + 1)) → IsPair g (s.heap.objs.size + 3) .none .none →
      g.IsStrIter s.heap.objs.size (strIterType x) x t 0 → g.IsStrIter (s.heap.objs.size + 1) (strIterType y) y u 0 → (∀ c o, s.heap.get? c = some o → g.get? c = some o) → Q (.ref (s.heap.objs.size + 4)) { s with heap := g }) :
    wpAny (model prog w) A (call (.type "zip") [.str x t, .str y u]) Q E s := by
  refine callType_new F.called_zip (by decide) (F.typeCall_zip_2 _ _) (F.newCall_zip_2 _ _) (fun obj => F.args_object_init_3 obj _ _) F.entry_zip_new (new_zipS x y t u) ?_
  have n1 : (s.heap.push (walker x t)).objs.size = s.heap.objs.size + 1 := Heap.size_push ..
  have n2 : ((s.heap.push (walker x t)).push (walker y u)).objs.size = s.heap.objs.size + 2 := by rw [Heap.size_push, n1]
  have n3 : (((s.heap.push (walker x t)).push (walker y u)).push (two (.ref s.heap.objs.size) (.ref (s.heap.push (walker x t)).objs.size))).objs.size = s.heap.objs.size + 3 := by rw [Heap.size_push, n2]
  have n4 : (pairs s.heap x y t u).objs.size = s.heap.objs.size + 4 := by
    unfold pairs
    rw [Heap.size_push, n3]
  have old : ∀ {c : Addr} {o : Obj}, (pairs s.heap x y t u).get? c = some o → (zipped s.heap x y t u).get? c = some o := fun e => Heap.get?_push_of_some _ e
  have a5 : (zipped s.heap x y t u).get? (pairs s.heap x y t u).objs.size = some _ := Heap.get?_push_size _ rfl
  have a4 : (zipped s.heap x y t u).get? _ = some _ := old (Heap.get?_push_size _ rfl)
  have a3 : (zipped s.heap x y t u).get? _ = some _ := old (Heap.get?_push_of_some _ (Heap.get?_push_size _ rfl))
  have a2 : (zipped s.heap x y t u).get? _ = some _ := old (Heap.get?_push_of_some _ (Heap.get?_push_of_some _ (Heap.get?_push_size _ rfl)))
  have a1 : (zipped s.heap x y t u).get? s.heap.objs.size = some _ := old (Heap.get?_push_of_some _ (Heap.get?_push_of_some _ (Heap.get?_push_of_some _ (Heap.get?_push_size _ rfl))))
  show _ ∧ _
  rw [n2, n3, n4] at a5
  rw [n3] at a4
  rw [n2, n1] at a3
  rw [n1] at a2
  rw [n4]
  exact ⟨⟨_, a5, rfl⟩, q _ a5 a3 a4 ⟨_, a1, rfl, rfl⟩ ⟨_, a2, rfl, rfl⟩ fun c o e => old (Heap.get?_push_of_some _ (Heap.get?_push_of_some _ (Heap.get?_push_of_some _ (Heap.get?_push_of_some _ e))))⟩
end
end PSZ
namespace PSG
open PySem PySem.Spec L2
open PyProof.Rows (IntsAre AllBare)
/-- the pairs of two texts -/
def Itzs (x y : Str) : It :=
  ⟨fun i _ => i < x.cps.size ∧ i < y.cps.size, fun i H v H' => ∃ T c d, v = .ref T ∧ H T = none ∧ H' = upd H T (.tup [.str ⟨#[c]⟩, .str ⟨#[d]⟩]) ∧ x.cps[i]? = some c ∧ y.cps[i]? = some d, fun i _ => x.cps.size ≤ i ∨ y.cps.size ≤ i⟩
theorem turn_zipS {P : Program} {w : World} {K : PySem.W.Frag} {tg : List Expr} {n : Nat} {tp : Pos} {x y : Str} {t u : Tok} {l1 l2 z TI TO i1 i2 : Addr} (D : ZipApart z TI TO i1 i2 l1 l2) :
    Turn P w K (.Tuple tg n tp) (Itzs x y) [z, TI, TO, i1, i2] z (fun i h => IsZip h z TI TO .none ∧ IsPair h TI (.ref i1) (.ref i2) ∧ (∃ a b, IsPair h TO a b) ∧ h.IsStrIter i1 (strIterType x) x t i ∧ h.IsStrIter i2 (strIterType y) y u i) where
  mem := by simp
  obj := fun i h st c hc => by
    obtain ⟨hz, hTI, ⟨a, b, hTO⟩, ⟨o1, e1, _, d1⟩, ⟨o2, e2, _, d2⟩⟩ := st
    have which : c = z ∨ c = TI ∨ c = TO ∨ c = i1 ∨ c = i2 := by simpa using hc
    rcases which with rfl | rfl | rfl | rfl | rfl
    · exact ⟨_, hz, fun v q => nomatch q⟩
    · exact ⟨_, hTI, fun v q => nomatch q⟩
    · exact ⟨_, hTO, fun v q => nomatch q⟩
    · exact ⟨o1, e1, fun v q => by rw [d1] at q; cases q⟩
    · exact ⟨o2, e2, fun v q => by rw [d2] at q; cases q⟩
  keep := fun i h h' st k => by
    obtain ⟨hz, hTI, ⟨a, b, hTO⟩, h1, h2⟩ := st
    exact ⟨k z (by simp) _ hz, k TI (by simp) _ hTI, ⟨a, b, k TO (by simp) _ hTO⟩, PSZ.at_text h1 fun o q => k i1 (by simp) o q, PSZ.at_text h2 fun o q => k i2 (by simp) o q⟩
  item := by
    intro X e1 e2 e3 calm i pins s σ H E I fp st go
    subst e1 e2 e3
    obtain ⟨hz, hTI, ⟨a, b, hTO⟩, h1, h2⟩ := st
    obtain ⟨lx, ly⟩ := go
    have ex : x.cps[i]? = some x.cps[i] := Array.getElem?_eq_getElem lx
    have ey : y.cps[i]? = some y.cps[i] := Array.getElem?_eq_getElem ly
    have lz : z < s.heap.objs.size := Heap.lt_size hz
    refine PSZ.next_zipS D (PSZ.textTy x) (PSZ.textTy y) hz hTI hTO h1 h2 ex ey fun g m u1 u2 z' o' j1 j2 pr k => ?_
    refine ⟨_, rfl, wpAny_letOwnedTupleGo_zip (s := { s with heap := g, toks := m }) z' fun g2 z2 sb => ?_⟩
    have pr2 : g2.get? s.heap.objs.size = some { cls := .type "tuple", data := .seq #[.str ⟨#[x.cps[i]]⟩ u1, .str ⟨#[y.cps[i]]⟩ u2] } := (sb.2 _ (Nat.ne_of_gt lz)).trans pr
    have new : ObjOk X.prog X.w (upd H s.heap.objs.size (.tup [.str ⟨#[x.cps[i]]⟩, .str ⟨#[y.cps[i]]⟩])) g2 s.heap.objs.size (.tup [.str ⟨#[x.cps[i]]⟩, .str ⟨#[y.cps[i]]⟩]) :=
      ⟨by show 2 ≤ sizeLine; decide, _, .cons ⟨u1, rfl⟩ (.cons ⟨u2, rfl⟩ .nil), ⟨_, pr2, rfl, _, rfl⟩⟩
    have out : ∀ c, c ∉ [z, TI, TO, i1, i2] → c ≠ z ∧ c ≠ TO ∧ c ≠ i1 ∧ c ≠ i2 := fun c n => by
      simp only [List.mem_cons, List.not_mem_nil, or_false, not_or] at n
      exact ⟨n.1, n.2.2.1, n.2.2.2.1, n.2.2.2.2⟩
    have J := I.turnedNew (t' := m) (ch := [z, TI, TO, i1, i2]) (fun c o n q => (sb.2 c (out c n).1).trans (k c o (out c n).1 (out c n).2.1 (out c n).2.2.1 (out c n).2.2.2 q)) fp (Nat.le_refl _) new
    refine ⟨.ref s.heap.objs.size, _, J, rfl, ⟨_, _, _, rfl, I.hok.fresh (Nat.le_refl _), rfl, ex, ey⟩, ⟨z2, (sb.2 _ D.TIz).trans (k _ _ D.TIz D.TITO D.TIi1 D.TIi2 hTI), ?_, PSZ.at_text j1 fun o q => (sb.2 _ D.i1z).trans q, PSZ.at_text j2 fun o q => (sb.2 _ D.i2z).trans q⟩, fun c m => ?_⟩
    · obtain ⟨a', b', q⟩ := o'
      exact ⟨a', b', (sb.2 _ D.TOz).trans q⟩
    · have lt : c < s.heap.objs.size := by
        have which : c = z ∨ c = TI ∨ c = TO ∨ c = i1 ∨ c = i2 := by simpa using m
        rcases which with rfl | rfl | rfl | rfl | rfl
        · exact lz
        · exact Heap.lt_size hTI
        · exact Heap.lt_size hTO
        · obtain ⟨_, q, _⟩ := h1
          exact Heap.lt_size q
        · obtain ⟨_, q, _⟩ := h2
          exact Heap.lt_size q
      rw [upd_ne (Nat.ne_of_lt lt)]
      exact (fp c m).1
  done := by
    intro X e1 e2 e3 calm i pins s σ H E I fp st stop
    subst e1 e2 e3
    obtain ⟨hz, hTI, ⟨a, b, hTO⟩, h1, h2⟩ := st
    have fin : x.cps[i]? = none ∨ y.cps[i]? = none := stop.imp Array.getElem?_eq_none Array.getElem?_eq_none
    have out : ∀ c, c ∉ [z, TI, TO, i1, i2] → c ≠ z ∧ c ≠ TO ∧ c ≠ i1 ∧ c ≠ i2 := fun c n => by
      simp only [List.mem_cons, List.not_mem_nil, or_false, not_or] at n
      exact ⟨n.1, n.2.2.1, n.2.2.2.1, n.2.2.2.2⟩
    exact PSZ.next_zipS_end (I.ok.hd calm) D (PSZ.textTy x) (PSZ.textTy y) hz hTI hTO h1 h2 fin fun g m k => ⟨rfl, I.turnedL (t' := m) (ch := [z, TI, TO, i1, i2]) (fun c o n q => k c o (out c n).1 (out c n).2.1 (out c n).2.2.1 (out c n).2.2.2 q) fp⟩
  self := fun A i s Q E st h => wpAny_pyIter_zip st.1 h
def iZipS (ta : TA) : TI := fun σ H R => ta σ H fun vs H1 => ∃ x y, vs = [.str x, .str y] ∧ R (Itzs x y) H1
theorem pi_zipS {X : Cx} {e e2 : Expr} {ta : TA} {p pos tp : Pos} {tg : List Expr} {n : Nat} (hg : Gl X "zip") (hm : X.mg "zip" = none) (ha : PA X [e, e2] ta)
    (se : starEach [e, e2] X.env = (false, eval e X.env) :: starEach [e2] X.env := by rfl) (sn : (backTo pos (starEach [e2] X.env)).any (·.1) = false := by rfl) :
    PI X (.Tuple tg n tp) (.Call (.Name "zip" p) [e, e2] [] pos) (iZipS ta) := by
  refine ⟨fun pins s σ H R I h => ?_⟩
  refine PyProof.Rows.Call_ (ld_blt I hg hm PyProof.Rows.boot_zip (PyProof.Rows.callWith_type1 (thn (ha.run pos pins s σ H _ I h) fun us s1 ⟨vs, H1, I1, r1, x, y, ev, q⟩ => ?_) se sn))
  subst ev
  obtain ⟨u1, u2, rfl, rx, ry⟩ := vals2 r1
  obtain ⟨t, rfl⟩ := rx
  obtain ⟨u, rfl⟩ := ry
  have pos0 : 0 < s1.heap.objs.size := Nat.lt_of_le_of_lt (Nat.zero_le _) I1.big
  refine PSZ.call_zipS fun g hz hTI hTO h1 h2 k => wpAny_pyIter_zip hz ?_
  have I2 : Inv X pins σ H1 { s1 with heap := g } := I1.kept (t' := s1.toks) k
  refine ⟨s1.heap.objs.size + 4, [s1.heap.objs.size + 4, s1.heap.objs.size + 2, s1.heap.objs.size + 3, s1.heap.objs.size, s1.heap.objs.size + 1], _, _, H1, rfl, I2, turn_zipS (PySem.W.ktu_apart s1.heap.objs.size 0 0 pos0 pos0), ⟨hz, hTI, ⟨_, _, hTO⟩, h1, h2⟩, fun c m => ?_, q⟩
  have le : s1.heap.objs.size ≤ c := by
    simp only [List.mem_cons, List.not_mem_nil, or_false] at m
    rcases m with z | z | z | z | z
    · exact z ▸ Nat.le_add_right _ _
    · exact z ▸ Nat.le_add_right _ _
    · exact z ▸ Nat.le_add_right _ _
    · exact z ▸ Nat.le_refl _
    · exact z ▸ Nat.le_add_right _ _
  exact I1.fpOk le (I1.hok.fresh le)
/-- a loop over the pairs of two texts -/
theorem for_zipS {x y : Str} {g : TG} {tb : TS} {D : Ends} {σ : L2.St} {H : Hp} (Pv : Nat → L2.St → Hp → Prop) (h0 : Pv 0 σ H)
    (hs : ∀ (i c d : Nat) (T : Addr) (σ : L2.St) (H : Hp), x.cps[i]? = some c → y.cps[i]? = some d → Pv i σ H → H T = none → g (.ref T) σ (upd H T (.tup [.str ⟨#[c]⟩, .str ⟨#[d]⟩])) fun σ2 H2 => tb { D with nx := Pv (i + 1), ct := Pv (i + 1), bk := D.nx } σ2 H2)
    (hd : ∀ i σ H, x.cps.size ≤ i ∨ y.cps.size ≤ i → i ≤ x.cps.size → i ≤ y.cps.size → Pv i σ H → D.nx σ H) :
    ∃ W : Nat → Nat → L2.St → Hp → Prop, (∃ m, W 0 m σ H) ∧ ∀ i m σ H, W i m σ H →
      ((Itzs x y).stop i H ∧ D.nx σ H) ∨ ((Itzs x y).go i H ∧ ∃ N : L2.St → Hp → Prop, (∀ σ' H', N σ' H' → ∃ m', m' < m ∧ W (i + 1) m' σ' H') ∧ ∀ v H', (Itzs x y).yld i H v H' → g v σ H' fun σ2 H2 => tb { D with nx := N, ct := N, bk := D.nx } σ2 H2) := by
  refine ⟨fun i m σ H => m = x.cps.size - i ∧ i ≤ x.cps.size ∧ i ≤ y.cps.size ∧ Pv i σ H, ⟨x.cps.size, rfl, Nat.zero_le _, Nat.zero_le _, h0⟩, ?_⟩
  rintro i m σ H ⟨rfl, l1, l2, p⟩
  by_cases go : i < x.cps.size ∧ i < y.cps.size
  · refine .inr ⟨go, Pv (i + 1), fun σ' H' p' => ⟨x.cps.size - (i + 1), by omega, rfl, go.1, go.2, p'⟩, fun v H' yl => ?_⟩
    obtain ⟨T, c, d, rfl, hT, rfl, e1, e2⟩ := yl
    exact hs i c d T σ H e1 e2 p hT
  · have fin : x.cps.size ≤ i ∨ y.cps.size ≤ i := by omega
    exact .inl ⟨fin, hd i σ H fin l1 l2 p⟩
end PSG

set_option Elab.async false
set_option linter.all false
set_option maxRecDepth 100000
set_option maxHeartbeats 4000000
namespace PSG
open PySem PySem.Spec L2
open PyProof.Rows (IntsAre AllBare)
/-! ### own exceptions of any base, raised -/
/-- what an exception that is held bears: its dict, if it has attributes -/
def ExS (H : Hp) (d : Option Addr) (fs : List (Str × V)) : Prop := (d = none ∧ fs = []) ∨ ∃ dx, d = some dx ∧ fs ≠ [] ∧ H dx = some (exd dx fs)
theorem ExS.same {H H' : Hp} {d : Option Addr} {fs : List (Str × V)} (x : ExS H d fs) (s : Same H H') : ExS H' d fs := by
  rcases x with x | ⟨dx, e, n, h⟩
  · exact .inl x
  · exact .inr ⟨dx, e, n, s _ _ h⟩
/-- the new exception is no longer tracked, its dict stands -/
theorem let_go {X : Cx} {pins : List (Addr × Obj)} {σ : L2.St} {H1 H2 : Hp} {hp hp2 h2 : Heap} {g1 g2 : Array GenState} {r1 r2 : Drawn} {t1 t2 : Nat} {os1 os2 : OsState} {a C : Addr} {d : Option Addr} (I : Inv X pins σ H1 ⟨hp, g1, r1, t1, os1⟩)
    (above : hp.objs.size ≤ a) (old : ∀ b o, hp.get? b = some o → hp2.get? b = some o) (un : Un (frs X.stack) [] (upd H1 a (exo a C none)) H2 hp2 h2) (hok : HOk X.prog X.w H2 h2) (eos : os2 = os1) (bare : AllBare g2) (ea : H2 a = some (exo a C d)) :
    ∃ (t0 : Addr) (G : Heap), Inv X pins σ (del H2 a) ⟨G, g2, r2, t2, os2⟩ ∧ (∀ b o, G.get? b = some o → h2.get? b = some o) ∧ G.get? a = none ∧
      h2.get? a = some ({ cls := .ref C, dict := d, data := .fields #[.ref t0, .none, .none, .none, .bool false, .none] } : Obj) := by
  obtain ⟨t0, at_⟩ := exo_at hok ea
  have n1 : H1 a = none := I.hok.fresh above
  obtain ⟨G, yes, no⟩ := restrict h2 fun b => decide (b ≠ a)
  have gk : ∀ b, b ≠ a → G.get? b = h2.get? b := fun b n => yes b (decide_eq_true n)
  have ga : G.get? a = none := no a (by simp)
  have off : ∀ {b : Addr} {o : Obj}, hp.get? b = some o → b ≠ a := fun {b o} z => Nat.ne_of_lt (Nat.lt_of_lt_of_le (Heap.lt_size z) above)
  have up : ∀ {b : Addr} {u : Option HO}, b ≠ a → H1 b = u → upd H1 a (exo a C none) b = u := fun {b u} n e => (upd_ne n).trans e
  have U : Un (frs X.stack) [] H1 (del H2 a) hp G := {
    keep := fun b o z n f x => (gk b (off z)).trans (un.keep b o (old b o z) (up (off z) n) f x)
    slot := fun b o z n f x => by
      rw [gk b (off z)]
      exact un.slot b o (old b o z) (up (off z) n) f x
    free := fun b o z n x => (del_ne (off z)).trans (un.free b o (old b o z) (up (off z) n) x)
    there := fun b o z x => by
      rw [gk b (off z)]
      exact un.there b o (old b o z) x
    tups := fun b xs z => (del_ne (ne_of_none z n1)).trans (un.tups b xs (up (ne_of_none z n1) z))
    frzs := fun b o v z => (del_ne (ne_of_none z n1)).trans (un.frzs b o v (up (ne_of_none z n1) z))
    tbls := fun b ps z => by
      rw [del_ne (ne_of_none z n1)]
      exact un.tbls b ps (up (ne_of_none z n1) z) }
  have hok2 : HOk X.prog X.w (del H2 a) G := fun b o z => by
    have nb : b ≠ a := fun e => by
      rw [e, del_same] at z
      cases z
    rw [del_ne nb] at z
    refine (hok b o z).stay (fun c v hc y => ?_) (fun c hc => (del_ne (at_ne ea hc exo_own)).trans hc) fun c xs hc => (del_ne (at_ne ea hc exo_tup)).trans hc
    have nc : c ≠ a := by
      rcases hc with hc | hc
      · rw [hc]
        exact nb
      · exact at_ne ea hc exo_own
    exact (gk c nc).trans y
  refine ⟨t0, G, I.call' (ch := []) eos U hok2 bare (fun b z => absurd z (by simp)), fun b o z => ?_, ga, at_⟩
  by_cases e : b = a
  · rw [e, ga] at z
    cases z
  · exact (gk b e).symm.trans z
/-- C(e, ..): the exception's class, its dict, and what the state is then -/
def tPmk (C : Addr) (fn : List Str) (t : TA) : L2.St → Hp → XK → Prop := fun σ H Q => t σ H fun vs H1 => vs.length = fn.length ∧ fn.length ≤ 1000 ∧ ∀ d H3, Same H1 H3 → ExS H3 d (fn.zip vs).reverse → Q (.ref C) d H3
section
variable {X : Cx} {x : Str} {C fI : Addr} {n : Nat} {fd : FuncData} {ps fn : List Str} {B newId initId : String} {bmB : List Value} {p pos : Pos}
theorem pmade {pins : List (Addr × Obj)} {σ : L2.St} {H1 : Hp} {hp : Heap} {g : Array GenState} {dr : Drawn} {tk : Nat} {os : OsState} {Q : XK} {us : List Value} {vs : List V} (T : Xk X.K C fI B newId initId bmB)
    (F : FnOk X.prog X.w X.K X.mg X.base CX0 n fI fd ps (spXI C fn)) (room : Room (n + 1) X.A) (I1 : Inv X pins σ H1 ⟨hp, g, dr, tk, os⟩) (lay : List Value)
    (bi : ∀ s : Shared, X.K.In s.heap → BindsTo s fd ⟨Value.ref (hp.objs.size + 1) :: us, []⟩ (ps.zip (.ref (hp.objs.size + 1) :: us))) (va : Vals vs us) (len : vs.length = fn.length)
    (ho : ∀ d H3, Same H1 H3 → ExS H3 d (fn.zip vs).reverse → Q (.ref C) d H3) :
    codeAny (model X.prog X.w) (X.A.under (.builtin "type.__call__" ⟨.ref C :: lay, []⟩)) (.call (.ref fI) ⟨Value.ref (hp.objs.size + 1) :: us, []⟩)
      (PySem.W.InitBack (hp.objs.size + 1) fun r s' => match r with | .ok (.ret v) => MkP X pins σ Q v s' | .ok _ => False | .error e => X.xe e s')
      ⟨(hp.push (PySem.W.kdv_tup lay)).push (PySem.HandSPX.excO C hp.objs.size), g, dr, tk, os⟩ := by
  have big : hp.objs.size ≤ hp.objs.size + 1 := Nat.le_succ _
  have free : H1 (hp.objs.size + 1) = none := I1.hok.fresh big
  have old : ∀ b o, hp.get? b = some o → ((hp.push (PySem.W.kdv_tup lay)).push (PySem.HandSPX.excO C hp.objs.size)).get? b = some o := fun b o e => Heap.get?_push_of_some _ (Heap.get?_push_of_some _ e)
  have new : ((hp.push (PySem.W.kdv_tup lay)).push (PySem.HandSPX.excO C hp.objs.size)).get? (hp.objs.size + 1) = some (PySem.HandSPX.excO C hp.objs.size) := by heap_get
  have I2 := I1.laid (t' := tk) (a := hp.objs.size + 1) (o := exo (hp.objs.size + 1) C none) (h' := (hp.push (PySem.W.kdv_tup lay)).push (PySem.HandSPX.excO C hp.objs.size)) old big (exo_ok new)
  refine codeAny_mono (F.run _ X.stack _ _ _ (Value.ref (hp.objs.size + 1) :: us) (V.ref (hp.objs.size + 1) :: vs) (fun v H2 => v = .non ∧ (∀ b o, b ≠ hp.objs.size + 1 → H1 b = some o → H2 b = some o) ∧ ExV H2 (hp.objs.size + 1) C (fn.zip vs).reverse) (fun _ _ _ => False)
    (room.make C lay []) (I2.env0.make C lay []) (bi _ I2.kIn) (.cons rfl va) ⟨_, vs, rfl, len, upd_same, fun H2 k ex => ⟨rfl, fun b o nb e => k b o nb ((upd_ne nb).trans e), ex⟩⟩) fun r s' z => ?_
  match r, z with
  | .ok (.ret u), z =>
    obtain ⟨v, H2, eos, bare, un, hok, rel, ev, k, ex⟩ := z
    subst ev
    obtain ⟨h2, g2, r2, t2, os2⟩ := s'
    have fin : ∀ d, H2 (hp.objs.size + 1) = some (exo (hp.objs.size + 1) C d) → ExS (del H2 (hp.objs.size + 1)) d (fn.zip vs).reverse → MkP X pins σ Q (.ref (hp.objs.size + 1)) ⟨h2, g2, r2, t2, os2⟩ := fun d ea xs => by
      obtain ⟨t0, G, J, sub, ga, at_⟩ := let_go (r2 := r2) (t2 := t2) I1 big old un hok eos bare ea
      refine ⟨hp.objs.size + 1, _, _, ⟨G, g2, r2, t2, os2⟩, _, .ref C, d, rfl, J, sub, ga, at_, ⟨rfl, rfl⟩, rfl, rfl, del_same, rfl, bare, raises_own T.exc T.ty, ho d _ (fun b o e => ?_) xs⟩
      have nb : b ≠ hp.objs.size + 1 := ne_of_none e free
      exact (del_ne nb).trans (k b o nb e)
    refine ⟨rel, ?_⟩
    rcases ex with ⟨e, ea⟩ | ⟨d, e, ea, ed⟩
    · exact fin none ea (.inl ⟨rfl, e⟩)
    · refine fin (some d) ea (.inr ⟨d, rfl, e, (del_ne fun z => ?_).trans ed⟩)
      obtain ⟨t0, at_⟩ := exo_at hok ea
      obtain ⟨mA, ⟨o, es, ep, e1, e2, _⟩, _⟩ := exd_at hok ed
      rw [z, at_] at e1
      have e3 := Option.some.inj e1
      subst e3
      cases e2
  | .ok .next, z => exact z.elim
  | .ok .brk, z => exact z.elim
  | .ok .cont, z => exact z.elim
  | .error er, z => exact z.elim
theorem pmk_xk {e : Expr} {es : List Expr} {t : TA} (T : Xk X.K C fI B newId initId bmB) (F : FnOk X.prog X.w X.K X.mg X.base CX0 n fI fd ps (spXI C fn)) (room : Room (n + 1) X.A) (bi : Binds X.K fd ps []) (hps : ps.length = fn.length + 1)
    (hg : Gl X x) (hm : X.mg x = some (.ref C)) (ha : PA X (e :: es) t) (nd : (x == ("__debug__" : Str)) = false := by decide)
    (se : starEach (e :: es) X.env = (false, eval e X.env) :: starEach es X.env := by rfl) (sn : (backTo pos (starEach es X.env)).any (·.1) = false := by rfl) :
    PMk X (.Call (.Name x p) (e :: es) [] pos) (tPmk C fn t) := by
  intro pins s σ H Q I h
  refine wpAny_Call_Name_kw (ld_glob I hg hm ?_ nd)
  refine PySem.W.callWith_K (h₀ := X.base) I.ok.mod.kin T.keep (thn (ha.run pos pins s σ H _ I h) fun us s1 ⟨vs, H1, I1, r1, hl, hz, q1⟩ => ⟨I1.kIn, ?_⟩) se sn
  show wpAny _ _ (call (.ref C) us) _ _ _
  obtain ⟨hp, g, dr, tk, os⟩ := s1
  obtain ⟨nm, N, qn, bs, bm, hdct, sb, sub, ab, col, dd, k0, k1, k2, k3, k5, hC, same⟩ := PySem.W.excInit_of I1.kIn T.made
  have lu : us.length = fn.length := r1.length.symm.trans hl
  refine wpAny_call (PySem.HandSPX.call_own T.fb same hC (PySem.W.looks_findIn I1.kIn T.init) (fun self => PySem.W.bind_fn I1.kIn self T.fn) (by rw [sizeLine_eq]; omega) ?_)
  refine codeAny_mono (pmade (Q := Q) T F room I1 us (us := us) (fun s2 k2 => ?_) r1 hl q1) fun r s' z => z
  have z := bi s2 (Value.ref (hp.objs.size + 1) :: us) k2 (by rw [List.append_nil, List.length_cons, lu, hps])
  rw [List.append_nil] at z
  exact z
theorem pmk_xk0 (T : Xk X.K C fI B newId initId bmB) (F : FnOk X.prog X.w X.K X.mg X.base CX0 n fI fd ps (spXI C [])) (room : Room (n + 1) X.A) (bi : Binds X.K fd ps []) (hps : ps.length = 1)
    (hg : Gl X x) (hm : X.mg x = some (.ref C)) (nd : (x == ("__debug__" : Str)) = false := by decide) : PMk X (.Call (.Name x p) [] [] pos) (tPmk C [] tNil) := by
  intro pins s σ H Q I h
  refine wpAny_Call_Name_kw (ld_glob I hg hm ?_ nd)
  refine PySem.W.callWith_K0 I.kIn T.keep ?_
  obtain ⟨hp, g, dr, tk, os⟩ := s
  obtain ⟨nm, N, qn, bs, bm, hdct, sb, sub, ab, col, dd, k0, k1, k2, k3, k5, hC, same⟩ := PySem.W.excInit_of I.kIn T.made
  refine wpAny_call (PySem.HandSPX.call_own T.fb same hC (PySem.W.looks_findIn I.kIn T.init) (fun self => PySem.W.bind_fn I.kIn self T.fn) (Nat.zero_le _) ?_)
  refine codeAny_mono (pmade (Q := Q) (vs := []) T F room I [] (us := []) (fun s2 k2 => ?_) .nil rfl h.2.2) fun r s' z => z
  exact bi s2 [Value.ref (hp.objs.size + 1)] k2 (by rw [List.append_nil, hps]; rfl)
end
/-! ### in an except suite -/
section
variable {X : Cx} {a : Addr} {oe : Obj} {cls : Value} {d : Option Addr} {pn : List (Addr × Obj)}
theorem held {D : Addr} {fs : List (Str × V)} {pins : List (Addr × Obj)} {σ : L2.St} {H : Hp} {s : Shared} (hz : Zc (.ref D) d oe) (hf : ∃ vs, oe.data = .fields vs) (I : Inv (X.suite a ((a, oe) :: pn)) pins σ H s) (x : ExS H d fs) :
    ∃ od, PySem.W.InstAt s.heap a oe D od := by
  obtain ⟨vs, hv⟩ := hf
  obtain ⟨at_, _⟩ := I.pin (a, oe) (List.mem_append_left _ List.mem_cons_self)
  have nc : PySem.W.notCls oe = true := by
    unfold PySem.W.notCls
    rw [hv]
  rcases x with ⟨rfl, _⟩ | ⟨dx, rfl, _, h⟩
  · exact ⟨none, at_, hz.1, nc, by rw [hz.2]; trivial⟩
  · obtain ⟨mA, hns, _⟩ := exd_at I.hok h
    obtain ⟨o, ho, _⟩ := lookIn_ns hns
    exact ⟨some o, at_, hz.1, nc, by rw [hz.2]; exact ho⟩
/-- isinstance(e, c) and isinstance(e, (c, ..)) of the exception that is held -/
def rHis (K : PySem.W.Frag) (a : Addr) (cls : Value) (d : Option Addr) : List V → Hp → VK → Prop := fun xs H Q => ∃ (D : Addr) (fs : List (Str × V)) (b : Bool), cls = .ref D ∧ ExS H d fs ∧ PySem.W.XcC K D ∧
  ((∃ (c : V) (u : Value), xs = [.ref a, c] ∧ ClsV c u ∧ PySem.W.kitOne K (.ref D) u = some b) ∨ ∃ (tp : Addr) (cs : List V) (us : List Value), xs = [.ref a, .ref tp] ∧ H tp = some (.tup cs) ∧ Paired ClsV cs us ∧ PySem.W.kitAny K (.ref D) us = some b) ∧ Q (.bl b) H
theorem call_his (hz : Zc cls d oe) (hf : ∃ vs, oe.data = .fields vs) : CallR (X.suite a ((a, oe) :: pn)) (.builtin "isinstance") (rHis X.K a cls d) := by
  intro pins s σ H xs us Q I r h
  obtain ⟨D, fs, b, rfl, x, T, k, q⟩ := h
  obtain ⟨od, J⟩ := held hz hf I x
  rcases k with ⟨c, u, rfl, k, e⟩ | ⟨tp, cs, ws, rfl, hT, k, e⟩
  · obtain ⟨u1, u2, rfl, r1, r2⟩ := vals2 r
    cases r1
    have e2 := k.eq r2
    subst e2
    exact PySem.W.kia_one (T.kit (x := a) (ox := oe)) I.kIn ⟨od, J⟩ e (fun z => nomatch z) fun tk => ⟨.bl b, H, I.tok tk, rfl, q⟩
  · obtain ⟨u1, u2, rfl, r1, r2⟩ := vals2 r
    cases r1
    cases r2
    obtain ⟨_, its, rv, o, h1, h2, n, h3⟩ := (show ObjOk X.prog X.w H s.heap tp (.tup cs) from I.hok tp _ hT)
    have e3 := ClsV.all k rv
    subst e3
    obtain ⟨oc, oD, dt, sl⟩ := o
    simp only at h2 h3
    subst h2 h3
    exact PySem.W.kia_tup (T.kit (x := a) (ox := oe)) I.kIn ⟨od, J⟩ h1 e (fun z => nomatch z) fun tk => ⟨.bl b, H, I.tok tk, rfl, q⟩
/-- e.n of the exception that is held -/
def tHfld (K : PySem.W.Frag) (a : Addr) (cls : Value) (d : Option Addr) (n : Str) (te : TE) : TE := fun σ H Q => te σ H fun x H1 => ∃ (D : Addr) (fs : List (Str × V)) (v : V), x = .ref a ∧ cls = .ref D ∧ ExS H1 d fs ∧ PySem.W.XcC K D ∧ PySem.W.findIn K (.ref D) n = some none ∧ fs.lookup n = some v ∧ Q v H1
theorem pe_hfld {e : Expr} {te : TE} {pos : Pos} {n : Str} (hz : Zc cls d oe) (hf : ∃ vs, oe.data = .fields vs) (he : PE (X.suite a ((a, oe) :: pn)) e te) (hb : attributeBase e n X.env (eval e X.env) = eval e X.env := by rfl) :
    PE (X.suite a ((a, oe) :: pn)) (.Attribute e n pos) (tHfld X.K a cls d n te) where
  run := fun pins s σ H Q I h => by
    refine attr_of hb (thn (he.run pins s σ H _ I h) fun u s1 hh => ?_)
    obtain ⟨x, H1, I1, rx, D, fs, v, ex, ec, xs, T, no, l, q⟩ := hh
    subst ex ec
    cases rx
    rcases xs with ⟨_, e⟩ | ⟨dx, ed, _, h2⟩
    · rw [e] at l
      cases l
    · subst ed
      obtain ⟨vs, hv⟩ := hf
      obtain ⟨at_, _⟩ := I1.pin (a, oe) (List.mem_append_left _ List.mem_cons_self)
      obtain ⟨mA, hns, rel⟩ := exd_at I1.hok h2
      obtain ⟨o, ho, look⟩ := lookIn_ns hns
      obtain ⟨w, hw, rw_⟩ := RelO.some_of (v := v) (o := mA n) (by rw [← l]; exact rel n)
      have J : PySem.W.InstAt s1.heap a oe D (some o) := ⟨at_, hz.1, by unfold PySem.W.notCls; rw [hv] <;> rfl, by rw [hz.2]; exact ho⟩
      exact PySem.HandSPX.exc_get I1.kIn J T.get T.get2 T.exc (PySem.W.findObj_own T.dict no rfl (by rw [look, hw])) (handed_of rw_) ⟨v, H1, I1.tok _, rw_, q⟩
end
/-! ### f(k = v, ..) of a def that may raise -/
section
variable {X : Cx} {CT : CXT} {k : Nat} {f : Addr} {fd : FuncData} {ps ks : List Str} {sp : Sp} {E : L2.St → XK} {x : Str} {p pos : Pos} {kws : List Keyword} {t : TA}
theorem pe_callW (F : FnOk X.prog X.w X.K X.mg X.base CT k f fd ps sp) (room : Room k X.A) (hg : Gl X x) (hm : X.mg x = some (.ref f)) (keep : PySem.W.keepIn X.K (.ref f) = true)
    (bi : ∀ (s : Shared) (ws : List Value), X.K.In s.heap → ws.length = ks.length → BindsTo s fd ⟨[], ks.zip ws⟩ (ps.zip ws)) (lk : ks.length = ps.length) (pass : ∀ σ, PassesAt CT X σ (E σ))
    (ha : PK X kws t) (hall : (backToKw pos (keywordEach kws X.env)).all (·.1.isSome) = true := by rfl) (hks : (backToKw pos (keywordEach kws X.env)).filterMap (·.1) = ks := by rfl)
    (nd : (x == ("__debug__" : Str)) = false := by decide) (sn : ((backTo pos (starEach [] X.env)).any (·.1) || (backToKw pos (keywordEach kws X.env)).any (·.1.isNone)) = false := by rfl) :
    PE X (.Call (.Name x p) [] kws pos) (tCallS sp E t) where
  run := fun pins s σ H Q I h => by
    refine wpAny_Call_Name_kw (ld_glob I hg hm ?_ nd)
    refine PySem.W.callWith_KW0 (h₀ := X.base) I.ok.mod.kin keep hall (thn (ha.run pos pins s σ H _ I h) fun ws s1 ⟨vs, H1, I1, r1, q1⟩ => ⟨I1.kIn, ?_⟩) sn
    rw [hks]
    show wpAny _ _ (call (.ref f) [] (ks.zip ws)) _ _ _
    have lw : ws.length = ks.length := (r1.length.symm.trans (F.len _ _ _ _ q1)).trans lk.symm
    refine wpAny_call (codeAny_mono (F.run X.A X.stack s1 H1 ⟨[], ks.zip ws⟩ ws vs Q (E σ) room I1.env0 (bi s1 ws I1.kIn lw) r1 q1) fun r s' z => ?_)
    match r, z with
    | .error er, z => exact pass σ pins H1 s1 er s' I1 z
    | .ok (.ret u), z => exact I1.after z
end
end PSG

set_option Elab.async false
set_option linter.all false
set_option maxRecDepth 100000
set_option maxHeartbeats 4000000
namespace PSG
open PySem PySem.Spec L2
open PyProof.Rows (IntsAre AllBare)
/-- repr(x) of data, also in an except suite -/
theorem call_reprH {X : Cx} (un : X.A.units + 200 < cLine) (gd : X.A.guards = some []) : CallR X (.builtin "repr") rRep := by
  intro pins s σ H xs us Q I r ho
  obtain ⟨x, d, far, rfl, dq, cl, sh, sz, dp, q⟩ := ho
  obtain ⟨u, rfl, rx⟩ := vals1 r
  obtain ⟨as, rd, no1⟩ := dq.reads I rx
  have nosys : d.hasDict = true → sysModules ∉ as := fun z => no1 (cl z)
  have fin : ∀ t, EP X pins σ Q (.str d.shown t) s := fun t => ⟨.str _, H, I, ⟨_, rfl⟩, q⟩
  have got : ∀ h' (t tk : Tok), (∀ b o, s.heap.get? b = some o → h'.get? b = some o) → EP X pins σ Q (.str d.shown t) { s with heap := h', toks := tk } := fun h' t tk k => ⟨.str _, H, I.kept k, ⟨_, rfl⟩, q⟩
  cases rd with
  | none => exact P.repr_of_none ⟨.str _, H, I.tok _, ⟨_, rfl⟩, by simpa only [PyData.shown] using q⟩
  | bool b =>
    refine P.repr_of_bool ⟨.str _, H, I.tok _, ⟨_, rfl⟩, ?_⟩
    simp only [PyData.shown] at q
    cases b <;> exact q
  | int i t => exact P.repr_of_int (by simpa [PyData.showable] using sh) ⟨.str _, H, I.tok _, ⟨_, rfl⟩, by simpa only [PyData.shown] using q⟩
  | str z t =>
    simp only [PyData.shown] at q sz
    exact P.repr_of_str ⟨.str _, H, I.tok _, ⟨_, rfl⟩, q⟩ sz
  | list h1 h2 h3 h4 => exact repr_of_reads' (Reads.list h1 h2 h3 h4) sh nosys gd (by omega) (fun _ _ z => z) (fun h' u tk k => got h' _ tk k) sz
  | tuple h1 h2 h3 h4 => exact repr_of_reads' (Reads.tuple h1 h2 h3 h4) sh nosys gd (by omega) (fun _ _ z => z) (fun h' u tk k => got h' _ tk k) sz
  | dict h1 h2 h3 h4 h5 => exact repr_of_reads' (Reads.dict h1 h2 h3 h4 h5) sh nosys gd (by omega) (fun _ _ z => z) (fun h' u tk k => got h' _ tk k) sz
theorem room_units {n : Nat} {A : Around} (r : Room n A) : A.units + 200 < cLine := by
  have h := r.un
  omega
end PSG

set_option Elab.async false
set_option linter.all false
set_option maxRecDepth 100000
set_option maxHeartbeats 8000000
namespace K12
open PySem PySem.Spec L2 PSG
open PyProof.Rows (IntsAre AllBare)
def topS (i : Nat) : Stmt := PySem.Challenge.pw_pairsigns_k12_signs_of_values.main.body.getD i (.Pass ⟨0, 0, 0, 0⟩)
abbrev s__law_rng : Stmt := topS 19
theorem sc__law_rng : FnScope ["_law_script", "_law_k", "_law_cell"] ["_law_script", "_law_k"] (defScope s__law_rng) := ⟨rfl, rfl, rfl, by decide +kernel, rfl, by decide +kernel, by decide +kernel⟩
abbrev s__law_draw : Stmt := topS 20
theorem sc__law_draw : FnScope ["_law_rng_here", "_law_many", "_law_digit", "_law_mixed"] ["_law_rng_here", "_law_many"] (defScope s__law_draw) := ⟨rfl, rfl, rfl, by decide +kernel, rfl, by decide +kernel, by decide +kernel⟩
abbrev s__law_choice : Stmt := topS 21
theorem sc__law_choice : FnScope ["_law_rng_here", "_law_options"] ["_law_rng_here", "_law_options"] (defScope s__law_choice) := ⟨rfl, rfl, rfl, by decide +kernel, rfl, by decide +kernel, by decide +kernel⟩

/-- the built-ins that the module leaves as they are -/
structure Blt (mg : Str → Option Value) : Prop where
  n_len : mg "len" = none
  n_max : mg "max" = none
  n_min : mg "min" = none
  n_abs : mg "abs" = none
  n_int : mg "int" = none
  n_divmod : mg "divmod" = none
  n_range : mg "range" = none
  n_isinstance : mg "isinstance" = none
  n_repr : mg "repr" = none
  n_zip : mg "zip" = none
  n_all : mg "all" = none
  n_bool : mg "bool" = none
  n_str : mg "str" = none
  n_ValueError : mg "ValueError" = none
  n_RuntimeError : mg "RuntimeError" = none
section
variable {P : Program} {w : World} {K : PySem.W.Frag} {mg : Str → Option Value} {base : Heap}
def spRng (K : PySem.W.Frag) : Sp := fun vs H Q _ => ∃ (a : Addr) (ns : List Int) (k : Nat), vs = [.ref a, .int k] ∧ SqL K H a (ns.map V.int) ∧ k ≤ 1000 ∧ ∀ p x y, H p = none → (0 : Int) ≤ x → 0 ≤ y → y < 2147483587 → Q (.ref p) (upd H p (.lst [.int x, .int y]))
theorem ok_rng {f : Addr} {fd : FuncData} (F : Fun K "_law_rng" "_law_rng" s__law_rng f fd) (T : Blt mg) : FnOk P w K mg base CX0 1 f fd ["_law_script", "_law_k"] (spRng K) := by
  have sc := sc__law_rng
  refine F.ok sc (fun vs H Q E h => ?_) (fun cdv A outer s H vs Q E hr h => ?_)
  · obtain ⟨a, ns, k, rfl, _⟩ := h
    rfl
  · obtain ⟨a, ns, k, rfl, hS, hk, q⟩ := h
    refine ⟨_, (pss_cons (ps_set (i := 2) sc.nd rfl (.inl rfl) (pe_op op_add (pe_op op_mul pe_int (pv 1)) pe_int))
      (pss_cons (ps_if (pt_cmpR op_lt (pv 1) (pe_callB call_len_seq (by rfl) T.n_len PySem.boot_len (pa_cons (pv 0) pa_nil)) (nomark _)) (pss_one (ps_set (i := 2) sc.nd rfl (.inl rfl) (pe_ix ix_list (pv 0) (pv 1) (fun _ _ => rfl)))) pss_nil)
      (pss_one (ps_ret (pe_lst (pa_cons (pe_callB (call_max2 rfl) (by rfl) T.n_max (by decide +kernel) (pa_cons pe_int (pa_cons (pe_op op_sub (pe_callB call_abs (by rfl) T.n_abs (by decide +kernel) (pa_cons (pv 2) pa_nil)) (pe_op op_pow pe_int pe_int)) pa_nil))) (pa_cons (pe_op op_add (pe_op op_mod (pe_callTy call_int1 (by rfl) T.n_int (by decide +kernel) (pa_cons (pe_op op_mul (pe_op op_add (pe_op op_mod (pe_callTy call_int1 (by rfl) T.n_int (by decide +kernel) (pa_cons (pe_callB call_abs (by rfl) T.n_abs (by decide +kernel) (pa_cons (pv 2) pa_nil)) pa_nil)) pe_int) pe_int) (pe_op op_pow (pe_op op_add (pv 1) pe_int) pe_int)) pa_nil)) pe_int) pe_int) pa_nil))))))), ?_⟩
    refine ⟨_, rfl, _, _, rfl, rfl, .inl ⟨by decide, by decide⟩, _, _, rfl, rfl, ?_⟩
    refine ⟨_, rfl, _, rfl, a, _, rfl, .inl hS, _, _, rfl, rfl, _, rfl, ite2 (fun e => ?_) (fun e => ?_)⟩
    · have lt : k < (ns.map V.int).length := by
        have e1 := of_decide_eq_true e
        omega
      rw [List.length_map] at lt
      have at_ : (ns.map V.int)[k]? = some (.int ns[k]) := by
        rw [List.getElem?_map, List.getElem?_eq_getElem lt]
        rfl
      refine ⟨_, rfl, _, rfl, a, _, _, _, rfl, rfl, hS, atI_nat at_, ?_⟩
      refine ⟨_, rfl, _, rfl, _, _, rfl, rfl, ⟨by decide, by decide, by decide⟩, _, _, rfl, rfl, _, _, rfl, _, rfl, _, rfl, .inl ⟨_, rfl, _, _, rfl, rfl, (by show (0 : Int) < _; decide), _, _, rfl, rfl, _, rfl, _, _, rfl, rfl, _, _, rfl, rfl,
        ⟨by decide, by decide, by omega⟩, _, _, rfl, rfl, .inl ⟨by omega, by omega⟩, .inl ⟨_, rfl, _, _, rfl, rfl, (by show (0 : Int) < _; decide), _, _, rfl, rfl, (by show 2 ≤ sizeLine; decide), fun p hp => ?_⟩⟩⟩
      exact q p _ _ hp (by split <;> omega) (by omega) (by omega)
    · refine ⟨_, rfl, _, rfl, _, _, rfl, rfl, ⟨by decide, by decide, by decide⟩, _, _, rfl, rfl, _, _, rfl, _, rfl, _, rfl, .inl ⟨_, rfl, _, _, rfl, rfl, (by show (0 : Int) < _; decide), _, _, rfl, rfl, _, rfl, _, _, rfl, rfl, _, _, rfl, rfl,
        ⟨by decide, by decide, by omega⟩, _, _, rfl, rfl, .inl ⟨by omega, by omega⟩, .inl ⟨_, rfl, _, _, rfl, rfl, (by show (0 : Int) < _; decide), _, _, rfl, rfl, (by show 2 ≤ sizeLine; decide), fun p hp => ?_⟩⟩⟩
      exact q p _ _ hp (by split <;> omega) (by omega) (by omega)
theorem pylong_no {i j : Int} (h0 : 0 < j) (h : j < 2 ^ 200) : CDivP i j := by
  refine ⟨h0, ?_⟩
  have lg : j.natAbs.log2 < 200 := PySem.Flt.log2_lt_of (by decide) (by omega)
  unfold Builtin.divisionGoesByPylong
  have small : ¬ (300 < if (j == 0) = true then 0 else j.natAbs.log2 / 30 + 1) := by split <;> omega
  exact Bool.and_eq_false_iff.mpr (.inl (decide_eq_false small))
def nx (y : Int) : Int := (y * 48283 + 10007) % 2147483587
theorem nx_lo (y : Int) : 0 ≤ nx y := Int.emod_nonneg _ (by decide)
theorem nx_hi (y : Int) : nx y < 2147483587 := Int.emod_lt_of_pos _ (by decide)
/-- a draw below m -/
def spDraw : Sp := fun vs H Q _ => ∃ (r : Addr) (m : Int), vs = [.ref r, .int m] ∧ Rg H r ∧ 0 < m ∧ m < 2 ^ 200 ∧ ∀ d H', (0 : Int) ≤ d → d < m → Rg H' r → But r H H' → Q (.int d) H'
theorem ok_draw {f : Addr} {fd : FuncData} (F : Fun K "_law_draw" "_law_draw" s__law_draw f fd) (T : Blt mg) : FnOk P w K mg base CX0 1 f fd ["_law_rng_here", "_law_many"] spDraw := by
  have sc := sc__law_draw
  refine F.ok sc (fun vs H Q E h => ?_) (fun cdv A outer s H vs Q E hr h => ?_)
  · obtain ⟨r, m, rfl, _⟩ := h
    rfl
  · obtain ⟨r, m, rfl, ⟨x, y, hR, hx, hy, hy2⟩, hm, hm2, q⟩ := h
    have hS : SqL K H r [.int x, .int y] := SqL.of hR
    refine ⟨_, (pss_cons (ps_if (pt_cmpR op_gt (pe_ix ix_list (pv 0) pe_int (fun _ _ => rfl)) pe_int (nomark _)) (pss_cons (ps_asg (pe_callB call_divmodW (by rfl) T.n_divmod (by decide +kernel) (pa_cons (pe_ix ix_list (pv 0) pe_int (fun _ _ => rfl)) (pa_cons (pv 1) pa_nil))) (pg_tup (by rfl) (pgs_cons (pg_sub (pv 0) pe_int set_list) (pgs_cons (pg_name (i := 2) sc.nd rfl (.inl rfl)) pgs_nil))))
      (pss_one (ps_ret (pv 2)))) pss_nil)
      (pss_cons (ps_asg (pe_op op_mod (pe_callTy call_int1 (by rfl) T.n_int (by decide +kernel) (pa_cons (pe_op op_add (pe_op op_mul (pe_ix ix_list (pv 0) pe_int (fun _ _ => rfl)) pe_int) pe_int) pa_nil)) pe_int) (pg_sub (pv 0) pe_int set_list))
      (pss_cons (ps_set (i := 3) sc.nd rfl (.inl rfl) (pe_op op_fdiv (pe_op op_mod (pe_callTy call_int1 (by rfl) T.n_int (by decide +kernel) (pa_cons (pe_op op_mul (pe_ix ix_list (pv 0) pe_int (fun _ _ => rfl)) (pe_ix ix_list (pv 0) pe_int (fun _ _ => rfl))) pa_nil)) pe_int) pe_int))
      (pss_cons (ps_if (pt_cmpR op_lt (pv 1) (pe_op op_pow pe_int pe_int) (nomark _)) (pss_one (ps_ret (pe_op op_mod (pe_callTy call_int1 (by rfl) T.n_int (by decide +kernel) (pa_cons (pv 3) pa_nil)) (pv 1)))) pss_nil)
      (pss_one (ps_ret (pe_op op_mod (pe_callTy call_int1 (by rfl) T.n_int (by decide +kernel) (pa_cons (pe_op op_add (pe_op op_mul (pe_op op_add (pe_op op_mul (pv 3) pe_int) (pe_ix ix_list (pv 0) pe_int (fun _ _ => rfl))) pe_int) (pv 3)) pa_nil)) (pv 1)))))))), ?_⟩
    refine ⟨_, rfl, _, _, _, _, rfl, rfl, hS, atI_nat (j := 0) rfl, _, _, rfl, rfl, _, rfl, ite2 (fun e => ?_) (fun e => ?_)⟩
    · refine ⟨_, rfl, _, _, _, _, rfl, rfl, hS, atI_nat (j := 0) rfl, _, rfl, _, _, rfl, pylong_no hm hm2, fun p hp => ?_⟩
      have npr : r ≠ p := ne_of_none hR hp
      refine ⟨p, _, rfl, .inl (.inl upd_same), rfl, _, _, rfl, _, rfl, r, _, _, 0, rfl, rfl, (upd_ne npr).trans hR, rfl, _, _, rfl, rfl, ?_⟩
      refine ⟨_, rfl, q _ _ (Int.emod_nonneg _ (by omega)) (Int.emod_lt_of_pos _ hm) ⟨_, _, upd_same, Int.ediv_nonneg hx (by omega), hy, hy2⟩ ((But.of (same_new hp)).trans But.at)⟩
    · refine ⟨_, rfl, _, _, _, _, rfl, rfl, hS, atI_nat (j := 1) rfl, _, _, rfl, rfl, .inr ⟨by decide, by decide⟩, _, _, rfl, rfl, .inl ⟨_, rfl, _, _, rfl, rfl, (by show (0 : Int) < _; decide), _, rfl, r, _, _, 1, rfl, rfl, hR, rfl, ?_⟩⟩
      have hR1 : (upd H r (.lst [.int x, .int (nx y)])) r = some (.lst [.int x, .int (nx y)]) := upd_same
      have hS1 : SqL K (upd H r (.lst [.int x, .int (nx y)])) r [.int x, .int (nx y)] := SqL.of hR1
      have hz0 := nx_lo y
      have hz1 := nx_hi y
      refine ⟨_, rfl, _, _, _, _, rfl, rfl, hS1, atI_nat (j := 1) rfl, _, rfl, _, _, _, _, rfl, rfl, hS1, atI_nat (j := 1) rfl, _, _, rfl, rfl, .inl ⟨by omega, by omega⟩, .inl ⟨_, rfl, _, _, rfl, rfl, (by show (0 : Int) < _; decide), _, _, rfl, rfl, ⟨by decide, by decide⟩, ?_⟩⟩
      refine ⟨_, rfl, _, _, rfl, rfl, ⟨by decide, by decide, by decide⟩, _, _, rfl, rfl, _, rfl, ite2 (fun e => ?_) (fun e => ?_)⟩
      · refine ⟨_, rfl, .inl ⟨_, rfl, _, rfl, _, _, rfl, rfl, hm, ?_⟩⟩
        exact q _ _ (Int.emod_nonneg _ (by omega)) (Int.emod_lt_of_pos _ hm) ⟨_, _, hR1, hx, hz0, hz1⟩ But.at
      · refine ⟨_, rfl, _, _, rfl, rfl, .inr ⟨by decide, by decide⟩, _, rfl, _, _, _, _, rfl, rfl, hS1, atI_nat (j := 1) rfl, _, _, rfl, rfl, _, _, rfl, rfl, .inr ⟨by decide, by decide⟩, _, rfl, _, _, rfl, rfl, .inl ⟨_, rfl, _, rfl, _, _, rfl, rfl, hm, ?_⟩⟩
        exact q _ _ (Int.emod_nonneg _ (by omega)) (Int.emod_lt_of_pos _ hm) ⟨_, _, hR1, hx, hz0, hz1⟩ But.at
/-- one of a list's items -/
def spChoice (K : PySem.W.Frag) : Sp := fun vs H Q _ => ∃ (r o : Addr) (xs : List V), vs = [.ref r, .ref o] ∧ Rg H r ∧ H o = some (.lst xs) ∧ o ≠ r ∧ xs ≠ [] ∧ xs.length ≤ 1000 ∧ ∀ v H', v ∈ xs → Rg H' r → But r H H' → Q v H'
theorem ok_choice {f fD : Addr} {fd fdD : FuncData} (F : Fun K "_law_choice" "_law_choice" s__law_choice f fd) (T : Blt mg) (F__law_draw : Fun K "_law_draw" "_law_draw" s__law_draw fD fdD) (b__law_draw : Binds K fdD ["_law_rng_here", "_law_many"] [])
    (g__law_draw : mg "_law_draw" = some (.ref fD)) : FnOk P w K mg base CX0 2 f fd ["_law_rng_here", "_law_options"] (spChoice K) := by
  have sc := sc__law_choice
  have G__law_draw : FnOk P w K mg base CX0 1 fD fdD ["_law_rng_here", "_law_many"] spDraw := ok_draw F__law_draw T
  refine F.ok sc (fun vs H Q E h => ?_) (fun cdv A outer s H vs Q E hr h => ?_)
  · obtain ⟨r, o, xs, rfl, _⟩ := h
    rfl
  · obtain ⟨r, o, xs, rfl, hR, hO, hne, hx, hl, q⟩ := h
    have pos : 0 < xs.length := List.length_pos_iff.mpr hx
    refine ⟨_, (pss_one (ps_ret (pe_ix ix_list (pv 1) (pe_call G__law_draw hr (by rfl) g__law_draw F__law_draw.kp b__law_draw .nil pass0 (pa_cons (pv 0) (pa_cons (pe_callB call_len_seq (by rfl) T.n_len PySem.boot_len (pa_cons (pv 1) pa_nil)) pa_nil))) (fun _ _ => rfl)))), ?_⟩
    refine ⟨_, rfl, _, rfl, _, rfl, _, _, rfl, .inl (SqL.of hO), r, _, rfl, hR, by omega, by omega, fun d H' h0 h1 g' b' => ?_⟩
    have hO' := b' _ _ hne hO
    have lt : d.toNat < xs.length := by omega
    have e : atI xs ((d.toNat : Nat) : Int) = some xs[d.toNat] := atI_nat (List.getElem?_eq_getElem lt)
    rw [Int.toNat_of_nonneg h0] at e
    exact ⟨_, _, d, xs[d.toNat], rfl, rfl, SqL.of hO', e, q _ _ (List.getElem_mem lt) g' b'⟩
end
end K12

set_option Elab.async false
set_option linter.all false
set_option maxRecDepth 100000
set_option maxHeartbeats 8000000
namespace K12
open PySem PySem.Spec L2 PSG
open PyProof.Rows (IntsAre AllBare)
abbrev s_is_integer : Stmt := topS 3
theorem sc_is_integer : FnScope ["value"] ["value"] (defScope s_is_integer) := ⟨rfl, rfl, rfl, by decide +kernel, rfl, by decide +kernel, by decide +kernel⟩
abbrev s_is_letters : Stmt := topS 4
theorem sc_is_letters : FnScope ["value", "letter"] ["value"] (defScope s_is_letters) := ⟨rfl, rfl, rfl, by decide +kernel, rfl, by decide +kernel, by decide +kernel⟩
abbrev s_is_value : Stmt := topS 5
theorem sc_is_value : FnScope ["value"] ["value"] (defScope s_is_value) := ⟨rfl, rfl, rfl, by decide +kernel, rfl, by decide +kernel, by decide +kernel⟩
abbrev s_kind_of_value : Stmt := topS 6
theorem sc_kind_of_value : FnScope ["value"] ["value"] (defScope s_kind_of_value) := ⟨rfl, rfl, rfl, by decide +kernel, rfl, by decide +kernel, by decide +kernel⟩
abbrev s_sign_between : Stmt := topS 7
theorem sc_sign_between : FnScope ["one", "other"] ["one", "other"] (defScope s_sign_between) := ⟨rfl, rfl, rfl, by decide +kernel, rfl, by decide +kernel, by decide +kernel⟩
abbrev s_sign_of : Stmt := topS 17
theorem sc_sign_of : FnScope ["one", "other", "value"] ["one", "other"] (defScope s_sign_of) := ⟨rfl, rfl, rfl, by decide +kernel, rfl, by decide +kernel, by decide +kernel⟩

/-! ### what a thing is -/
def tyD : PyData → String
  | .none => "NoneType"
  | .bool _ => "bool"
  | .int _ => "int"
  | .str _ => "str"
  | .list _ => "list"
  | .tuple _ => "tuple"
  | .dict _ => "dict"
theorem Dt.ty {K : PySem.W.Frag} {far : Bool} {H : Hp} {v : V} {d : PyData} (h : Dt far H v d) : TyX K H v (.type (tyD d)) := by
  cases h with
  | non => exact .base .non
  | bl b => exact .base (.bl b)
  | int i => exact .base (.int i)
  | str x => exact .base (.str x)
  | lst e _ _ => exact .base (.lst e)
  | tup e _ => exact .base (.tup e)
  | dict e _ => exact .base (.dK e)
def isI : PyData → Bool
  | .int _ => true
  | .bool _ => true
  | _ => false
def isB : PyData → Bool
  | .bool _ => true
  | _ => false
def isS : PyData → Bool
  | .str _ => true
  | _ => false
theorem kit_int {K : PySem.W.Frag} (d : PyData) : PySem.W.kitOne K (.type (tyD d)) (.type "int") = some (isI d) := by cases d <;> kernel_rfl
theorem kit_bool {K : PySem.W.Frag} (d : PyData) : PySem.W.kitOne K (.type (tyD d)) (.type "bool") = some (isB d) := by cases d <;> kernel_rfl
theorem kit_str {K : PySem.W.Frag} (d : PyData) : PySem.W.kitOne K (.type (tyD d)) (.type "str") = some (isS d) := by cases d <;> kernel_rfl
def abc : Str := "abcdefghijklmnopqrstuvwxyz"
/-- the signs of a text that are letters -/
def lets (x : Str) : List Bool := x.cps.toList.map fun c => decide (c ∈ abc.cps.toList)
def allLet (x : Str) : Bool := (lets x).all id
/-- 0: none, 1: a number, 2: a text -/
def kd : PyData → Nat
  | .int _ => 1
  | .str x => if allLet x = true ∧ x.length ≤ 12 then 2 else 0
  | _ => 0
/-! ### the program's own defs -/
/-- [.. for c in text] -/
theorem lc_str {x : Str} {g : TG} {tt : TT} {te : TE} {vs : List Nat} {σ : L2.St} {H1 : Hp} {D : Addr} {Qd : Hp → Prop} (Pv : Nat → Hp → Prop) (h0 : Pv 0 (upd H1 D (.lst [])))
    (hs : ∀ i c H, x.cps[i]? = some c → Pv i H → g (.str ⟨#[c]⟩) (wipe σ vs) H fun σ2 H2 => wipe σ2 vs = wipe σ vs ∧ tt σ2 H2 fun b H3 =>
      if b = true then te σ2 H3 fun y H4 => ∃ acc, H4 D = some (.lst acc) ∧ acc.length < sizeLine ∧ Pv (i + 1) (upd H4 D (.lst (acc ++ [y]))) else Pv (i + 1) H3) (hd : ∀ H, Pv x.cps.size H → Qd H) :
    ∃ W : Nat → Nat → Hp → Prop, (∃ m, W 0 m (upd H1 D (.lst []))) ∧ ∀ i m H, W i m H →
      ((Its x).stop i H ∧ Qd H) ∨ ((Its x).go i H ∧ ∃ Nx : Hp → Prop, (∀ H', Nx H' → ∃ m', m' < m ∧ W (i + 1) m' H') ∧ ∀ v H', (Its x).yld i H v H' → g v (wipe σ vs) H' fun σ2 H2 => wipe σ2 vs = wipe σ vs ∧ tt σ2 H2 fun b H3 =>
        if b = true then te σ2 H3 fun y H4 => ∃ acc, H4 D = some (.lst acc) ∧ acc.length < sizeLine ∧ Nx (upd H4 D (.lst (acc ++ [y]))) else Nx H3) := by
  refine ⟨fun i m H => m = x.cps.size - i ∧ i ≤ x.cps.size ∧ Pv i H, ⟨_, rfl, Nat.zero_le _, h0⟩, fun i m H hw => ?_⟩
  obtain ⟨e, le, p⟩ := hw
  by_cases lt : i < x.cps.size
  · refine .inr ⟨lt, Pv (i + 1), fun H' q => ⟨x.cps.size - (i + 1), by omega, rfl, lt, q⟩, fun v H' y => ?_⟩
    obtain ⟨rfl, c, hc, rfl⟩ := y
    exact hs i c _ hc p
  · have e2 : i = x.cps.size := by omega
    refine .inl ⟨Nat.le_of_not_lt lt, hd H ?_⟩
    rw [← e2]
    exact p
structure Cst (mg : Str → Option Value) : Prop where
  c_LETTERS : ∃ t, mg "LETTERS" = some (.str abc t)
  c_MOST_TEXT : ∃ t, mg "MOST_TEXT" = some (.int 12 t)
/-- data with a short text, not deep -/
structure Fine (d : PyData) : Prop where
  sh : d.showable = true
  ln : d.shown.length ≤ 1000
  dp : d.depth ≤ 6
  ok : PyData.strOk d.shown = true
/-- .. a text itself is short -/
structure Thing (d : PyData) : Prop where
  nice : Fine d
  sm : ∀ x, d = .str x → x.length ≤ 100
def letD : PyData → Bool
  | .str x => allLet x
  | _ => false
section
variable {P : Program} {w : World} {K : PySem.W.Frag} {mg : Str → Option Value} {base : Heap}
def spAsk (f : PyData → Bool) : Sp := fun vs H Q _ => ∃ v d, vs = [v] ∧ Dt true H v d ∧ Thing d ∧ ∀ H', Same H H' → Q (.bl (f d)) H'
theorem ok_int {f : Addr} {fd : FuncData} (F : Fun K "is_integer" "is_integer" s_is_integer f fd) (T : Blt mg) : FnOk P w K mg base CX0 1 f fd ["value"] (spAsk fun d => isI d && !isB d) := by
  have sc := sc_is_integer
  refine F.ok sc (fun vs H Q E h => ?_) (fun cdv A outer s H vs Q E hr h => ?_)
  · obtain ⟨v, d, rfl, _⟩ := h
    rfl
  · obtain ⟨v, d, rfl, hd, nd, q⟩ := h
    refine ⟨_, (pss_one (ps_ret (pe_and (pe_callB call_isi (by rfl) T.n_isinstance (by decide +kernel) (pa_cons (pv 0) (pa_cons (pe_bltn (v := .ty "int") (by rfl) T.n_int (by decide +kernel) rfl) pa_nil))) (pe_one (pe_not (pe_callB call_isi (by rfl) T.n_isinstance (by decide +kernel) (pa_cons (pv 0) (pa_cons (pe_bltn (v := .ty "bool") (by rfl) T.n_bool (by decide +kernel) rfl) pa_nil)))))))), ?_⟩
    refine ⟨_, rfl, v, .ty "int", _, _, _, rfl, .ty _, Dt.ty hd, kit_int d, _, rfl, ite2 (fun e => ?_) (fun e => ?_)⟩
    · refine ⟨_, rfl, v, .ty "bool", _, _, _, rfl, .ty _, Dt.ty hd, kit_bool d, _, rfl, ?_⟩
      have q' := q H (Same.refl _)
      dsimp only at q'
      rw [e, Bool.true_and] at q'
      exact q'
    · have q' := q H (Same.refl _)
      dsimp only at q'
      rw [Bool.eq_false_iff.mpr e, Bool.false_and] at q'
      exact q'
theorem ok_lets {f : Addr} {fd : FuncData} (F : Fun K "is_letters" "is_letters" s_is_letters f fd) (T : Blt mg) (U : Cst mg) : FnOk P w K mg base CX0 1 f fd ["value"] (spAsk letD) := by
  have sc := sc_is_letters
  obtain ⟨tL, cL⟩ := U.c_LETTERS
  refine F.ok sc (fun vs H Q E h => ?_) (fun cdv A outer s H vs Q E hr h => ?_)
  · obtain ⟨v, d, rfl, _⟩ := h
    rfl
  · obtain ⟨v, d, rfl, hd, nd, q⟩ := h
    refine ⟨_, (pss_one (ps_ret (pe_and (pe_callB call_isi (by rfl) T.n_isinstance (by decide +kernel) (pa_cons (pv 0) (pa_cons (pe_bltn (v := .ty "str") (by rfl) T.n_str (by decide +kernel) rfl) pa_nil))) (pe_one (pe_callB (cr_all rfl) (by rfl) T.n_all (by decide +kernel) (pa_cons (pe_lc (own := [("letter", 1)]) (g := gName 1) (tt := tYes) (by rfl) sc.nd (pi_str (pv 0)) (blkOk_by (own := [("letter", 1)]) (N := ["value", "letter"]) (sc := defScope s_is_letters) (by decide +kernel)) (fun _ _ _ _ _ => pg_name (i := 1) sc.nd rfl (Or.inl rfl)) (fun _ _ _ _ _ => pts_nil) (fun _ _ _ _ _ => (pe_cmpR op_in_sign (pv 1) (pe_glob (v := .str abc) (by rfl) cL ⟨_, rfl⟩) (by rfl)))) pa_nil)))))), ?_⟩
    refine ⟨_, rfl, v, .ty "str", _, _, _, rfl, .ty _, Dt.ty hd, kit_str d, _, rfl, ite2 (fun e => ?_) (fun e => ?_)⟩
    · cases d with
      | str x =>
        cases hd
        have few := nd.sm x rfl
        have ll : (lets x).length = x.cps.size := by
          unfold lets
          rw [List.length_map, Array.length_toList]
        refine ⟨_, rfl, x, rfl, fun p hp => lc_str (fun j G => Same H G ∧ G p = some (.lst (((lets x).take j).map V.bl))) ⟨same_new hp, upd_same⟩ ?_ ?_⟩
        · rintro i c G hc ⟨sm, at_⟩
          refine ⟨rfl, ?_⟩
          refine ⟨_, rfl, c, abc, rfl, rfl, _, at_, ?_, fun b o z => (upd_ne (ne_of_none z hp)).trans (sm _ _ z), ?_⟩
          · rw [List.length_map, List.length_take, ll]
            have e3 : x.cps.size ≤ 100 := few
            rw [sizeLine_eq]
            omega
          · have e2 : (lets x)[i]? = some (decide (c ∈ abc.cps.toList)) := by
              unfold lets
              rw [List.getElem?_map, Array.getElem?_toList, hc]
              rfl
            rw [upd_same, List.take_add_one, e2, List.map_append]
            rfl
        · rintro G ⟨sm, at_⟩
          rw [← ll, List.take_length] at at_
          exact ⟨p, lets x, rfl, SqL.of at_, q G sm⟩
      | _ => exact Bool.noConfusion e
    · have q' := q H (Same.refl _)
      cases d <;> first | exact q' | exact absurd rfl e
end
end K12

set_option Elab.async false
set_option linter.all false
set_option maxRecDepth 100000
set_option maxHeartbeats 8000000
namespace K12
open PySem PySem.Spec L2 PSG
open PyProof.Rows (IntsAre AllBare)

theorem op_or {X : Cx} {o : Value → Value → Sem Value} {r r' : R2} (h : OpR X o r) (h' : OpR X o r') : OpR X o fun x y H Q => r x y H Q ∨ r' x y H Q := by
  intro pins s σ H x y v u Q I rx ry hh
  rcases hh with hh | hh
  · exact h pins s σ H x y v u Q I rx ry hh
  · exact h' pins s σ H x y v u Q I rx ry hh
section
variable {P : Program} {w : World} {K : PySem.W.Frag} {mg : Str → Option Value} {base : Heap}
def valD (d : PyData) : Bool := kd d != 0
theorem kd_yes {x : Str} (z : allLet x = true ∧ x.length ≤ 12) : kd (.str x) = 2 := if_pos z
theorem kd_no {x : Str} (z : ¬ (allLet x = true ∧ x.length ≤ 12)) : kd (.str x) = 0 := if_neg z
theorem kd_int {d : PyData} (h : (isI d && !isB d) = true) : ∃ i, d = .int i := by
  cases d with
  | int i => exact ⟨i, rfl⟩
  | _ => first | exact Bool.noConfusion h | (simp [isI, isB] at h)
def lenD : PyData → Nat
  | .str x => x.length
  | _ => 0
theorem kd_not_int {d : PyData} (h : ¬ (isI d && !isB d) = true) : valD d = (letD d && decide (lenD d ≤ 12)) := by
  cases d with
  | int i => exact absurd rfl h
  | str x =>
    show (kd (.str x) != 0) = (allLet x && decide (x.length ≤ 12))
    by_cases h1 : allLet x = true
    · by_cases h2 : x.length ≤ 12
      · rw [kd_yes ⟨h1, h2⟩, h1, decide_eq_true h2]
        rfl
      · rw [kd_no (fun z => h2 z.2), decide_eq_false h2, Bool.and_false]
        rfl
    · rw [kd_no (fun z => h1 z.1), Bool.eq_false_iff.mpr h1, Bool.false_and]
      rfl
  | none => rfl
  | bool b => rfl
  | list _ => rfl
  | tuple _ => rfl
  | dict _ => rfl
theorem let_str {d : PyData} (h : letD d = true) : ∃ x, d = .str x ∧ allLet x = true := by
  cases d with
  | str x => exact ⟨x, rfl, h⟩
  | _ => exact Bool.noConfusion h
theorem ok_value {f f1 f2 : Addr} {fd d1 d2 : FuncData} (F : Fun K "is_value" "is_value" s_is_value f fd) (T : Blt mg) (U : Cst mg) (F_is_integer : Fun K "is_integer" "is_integer" s_is_integer f1 d1) (b_is_integer : Binds K d1 ["value"] []) (g_is_integer : mg "is_integer" = some (.ref f1))
    (F_is_letters : Fun K "is_letters" "is_letters" s_is_letters f2 d2) (b_is_letters : Binds K d2 ["value"] []) (g_is_letters : mg "is_letters" = some (.ref f2)) : FnOk P w K mg base CX0 2 f fd ["value"] (spAsk valD) := by
  have sc := sc_is_value
  obtain ⟨tM, cM⟩ := U.c_MOST_TEXT
  have G_is_integer : FnOk P w K mg base CX0 1 f1 d1 ["value"] _ := ok_int F_is_integer T
  have G_is_letters : FnOk P w K mg base CX0 1 f2 d2 ["value"] _ := ok_lets F_is_letters T U
  refine F.ok sc (fun vs H Q E h => ?_) (fun cdv A outer s H vs Q E hr h => ?_)
  · obtain ⟨v, d, rfl, _⟩ := h
    rfl
  · obtain ⟨v, d, rfl, hd, nd, q⟩ := h
    refine ⟨_, (pss_one (ps_ret (pe_or (pe_call G_is_integer (hr.mono (by decide)) (by rfl) g_is_integer F_is_integer.kp b_is_integer .nil pass0 (pa_cons (pv 0) pa_nil)) (pe_one (pe_and (pe_call G_is_letters (hr.mono (by decide)) (by rfl) g_is_letters F_is_letters.kp b_is_letters .nil pass0 (pa_cons (pv 0) pa_nil)) (pe_one (pe_cmpR op_le (pe_callB call_len_str (by rfl) T.n_len PySem.boot_len (pa_cons (pv 0) pa_nil)) (pe_glob (v := .int 12) (by rfl) cM ⟨_, rfl⟩) (nomark _)))))))), ?_⟩
    refine ⟨_, rfl, v, d, rfl, hd, nd, fun H1 s1 => ⟨_, rfl, ite2 (fun e => ?_) (fun e => ?_)⟩⟩
    · obtain ⟨i, rfl⟩ := kd_int e
      exact q H1 s1
    · refine ⟨_, rfl, v, d, rfl, hd.same s1, nd, fun H2 s2 => ⟨_, rfl, ite2 (fun e2 => ?_) (fun e2 => ?_)⟩⟩
      · obtain ⟨x, rfl, al⟩ := let_str e2
        cases hd
        have few := nd.sm x rfl
        refine ⟨_, rfl, x, rfl, by rw [sizeLine_eq]; omega, _, _, rfl, rfl, ?_⟩
        have q' := q H2 (s1.trans s2)
        rw [kd_not_int e] at q'
        have e3 : (letD (.str x) && decide (lenD (.str x) ≤ 12)) = decide ((x.length : Int) ≤ 12) := by
          rw [e2, Bool.true_and]
          exact decide_eq_decide.mpr ⟨fun z => by have z' : x.length ≤ 12 := z; omega, fun z => by show x.length ≤ 12; omega⟩
        rw [e3] at q'
        exact q'
      · have q' := q H2 (s1.trans s2)
        rw [kd_not_int e, Bool.eq_false_iff.mpr e2, Bool.false_and] at q'
        exact q'
def kindT (d : PyData) : Str := if isS d = true then "text" else "number"
def spKindOf : Sp := fun vs H Q _ => ∃ v d, vs = [v] ∧ Dt true H v d ∧ Q (.str (kindT d)) H
theorem ok_kind_of {f : Addr} {fd : FuncData} (F : Fun K "kind_of_value" "kind_of_value" s_kind_of_value f fd) (T : Blt mg) : FnOk P w K mg base CX0 1 f fd ["value"] spKindOf := by
  have sc := sc_kind_of_value
  refine F.ok sc (fun vs H Q E h => ?_) (fun cdv A outer s H vs Q E hr h => ?_)
  · obtain ⟨v, d, rfl, _⟩ := h
    rfl
  · obtain ⟨v, d, rfl, hd, q⟩ := h
    refine ⟨_, (pss_one (ps_ret (pe_ifExp (pt_val (pe_callB call_isi (by rfl) T.n_isinstance (by decide +kernel) (pa_cons (pv 0) (pa_cons (pe_bltn (v := .ty "str") (by rfl) T.n_str (by decide +kernel) rfl) pa_nil)))) pe_str pe_str))), ?_⟩
    refine ⟨_, rfl, v, .ty "str", _, _, _, rfl, .ty _, Dt.ty hd, kit_str d, _, rfl, ite2 (fun e => ?_) (fun e => ?_)⟩
    · unfold kindT at q
      rw [if_pos e] at q
      exact q
    · unfold kindT at q
      rw [if_neg e] at q
      exact q
/-- the sign of two values of one kind -/
def sgn : PyData → PyData → Int
  | .int i, .int j => if i < j then -1 else if j < i then 1 else 0
  | .str x, .str y => if x.cps.toList < y.cps.toList then -1 else if y.cps.toList < x.cps.toList then 1 else 0
  | _, _ => 0
theorem same_kind {d e : PyData} (h : kd d ≠ 0) (h2 : kd d = kd e) : (∃ i j, d = .int i ∧ e = .int j) ∨ ∃ x y, d = .str x ∧ e = .str y ∧ allLet x = true ∧ allLet y = true ∧ x.length ≤ 12 ∧ y.length ≤ 12 := by
  have str : ∀ {x : Str}, kd (.str x) ≠ 0 → allLet x = true ∧ x.length ≤ 12 := fun {x} z => by
    refine Classical.byContradiction fun n => z ?_
    exact kd_no n
  cases d with
  | int i => cases e with
    | int j => exact .inl ⟨i, j, rfl, rfl⟩
    | str y =>
      have z := str (x := y) (fun z => by rw [← h2] at z; exact h z)
      rw [kd_yes z] at h2
      cases h2
    | _ => cases h2
  | str x =>
    have z := str h
    cases e with
    | int j =>
      rw [kd_yes z] at h2
      cases h2
    | str y =>
      have z2 := str (x := y) (fun z => by rw [← h2] at z; exact h z)
      exact .inr ⟨x, y, rfl, rfl, z.1, z2.1, z.2, z2.2⟩
    | _ => exact absurd h2 h
  | _ => exact absurd rfl h
def spBetween : Sp := fun vs H Q _ => ∃ v u d e, vs = [v, u] ∧ Dt true H v d ∧ Dt true H u e ∧ kd d ≠ 0 ∧ kd d = kd e ∧ Q (.int (sgn d e)) H
theorem ok_between {f : Addr} {fd : FuncData} (F : Fun K "sign_between" "sign_between" s_sign_between f fd) : FnOk P w K mg base CX0 1 f fd ["one", "other"] spBetween := by
  have sc := sc_sign_between
  refine F.ok sc (fun vs H Q E h => ?_) (fun cdv A outer s H vs Q E hr h => ?_)
  · obtain ⟨v, u, d, e, rfl, _⟩ := h
    rfl
  · obtain ⟨v, u, d, e, rfl, hd, he, h1, h2, q⟩ := h
    refine ⟨_, (pss_cons (ps_if (pt_cmpR (op_or op_lt op_lt_str) (pv 0) (pv 1) (nomark _)) (pss_one (ps_ret (pe_un un_neg pe_int))) pss_nil)
      (pss_one (ps_ret (pe_ifExp (pt_cmpR (op_or op_gt op_gt_str) (pv 0) (pv 1) (nomark _)) pe_int pe_int)))), ?_⟩
    rcases same_kind h1 h2 with ⟨i, j, rfl, rfl⟩ | ⟨x, y, rfl, rfl, _⟩
    · cases hd
      cases he
      refine ⟨_, rfl, _, rfl, .inl ⟨i, j, rfl, rfl, _, rfl, ite2 (fun e => ?_) (fun e => ?_)⟩⟩
      · refine ⟨_, rfl, ?_⟩
        have q' : Q (.int (if i < j then -1 else if j < i then 1 else 0)) H := q
        rw [if_pos (of_decide_eq_true e)] at q'
        exact q'
      · refine ⟨_, rfl, _, rfl, .inl ⟨i, j, rfl, rfl, _, rfl, ite2 (fun e3 => ?_) (fun e3 => ?_)⟩⟩
        all_goals
          have q' : Q (.int (if i < j then -1 else if j < i then 1 else 0)) H := q
          rw [if_neg (fun z => e (decide_eq_true z))] at q'
        · rw [if_pos (of_decide_eq_true e3)] at q'
          exact q'
        · rw [if_neg (fun z => e3 (decide_eq_true z))] at q'
          exact q'
    · cases hd
      cases he
      refine ⟨_, rfl, _, rfl, .inr ⟨x, y, rfl, rfl, _, rfl, ite2 (fun e => ?_) (fun e => ?_)⟩⟩
      · refine ⟨_, rfl, ?_⟩
        have q' : Q (.int (if x.cps.toList < y.cps.toList then -1 else if y.cps.toList < x.cps.toList then 1 else 0)) H := q
        rw [if_pos (of_decide_eq_true e)] at q'
        exact q'
      · refine ⟨_, rfl, _, rfl, .inr ⟨x, y, rfl, rfl, _, rfl, ite2 (fun e3 => ?_) (fun e3 => ?_)⟩⟩
        all_goals
          have q' : Q (.int (if x.cps.toList < y.cps.toList then -1 else if y.cps.toList < x.cps.toList then 1 else 0)) H := q
          rw [if_neg (fun z => e (decide_eq_true z))] at q'
        · rw [if_pos (of_decide_eq_true e3)] at q'
          exact q'
        · rw [if_neg (fun z => e3 (decide_eq_true z))] at q'
          exact q'
end
end K12

set_option Elab.async false
set_option linter.all false
set_option maxRecDepth 100000
set_option maxHeartbeats 8000000
namespace K12
open PySem PySem.Spec L2 PSG
open PyProof.Rows (IntsAre AllBare)

/-- a class of the package: its name, and how it is made -/
structure Own (P : Program) (w : World) (K : PySem.W.Frag) (mg : Str → Option Value) (base : Heap) (x : Str) (C : Addr) (fn : List Str) : Prop where
  glob : mg x = some (.ref C)
  made : ∃ (fI : Addr) (fd : FuncData) (ps : List Str) (B newId initId : String) (bmB : List Value), Xk K C fI B newId initId bmB ∧ FnOk P w K mg base CX0 1 fI fd ps (spXI C fn) ∧ Binds K fd ps [] ∧ ps.length = fn.length + 1
section
variable {X : Cx} {x : Str} {C : Addr} {fn : List Str} {p pos : Pos} {e : Expr} {es : List Expr} {t : TA}
theorem pmk_own1 (T : Own X.prog X.w X.K X.mg X.base x C fn) (hr : Room 2 X.A) (hg : Gl X x) (ha : PA X (e :: es) t) (nd : (x == ("__debug__" : Str)) = false := by decide)
    (se : starEach (e :: es) X.env = (false, eval e X.env) :: starEach es X.env := by rfl) (sn : (backTo pos (starEach es X.env)).any (·.1) = false := by rfl) : PMk X (.Call (.Name x p) (e :: es) [] pos) (tPmk C fn t) := by
  obtain ⟨fI, fd, ps, B, n1, n2, bm, T1, F, b, l⟩ := T.made
  exact pmk_xk T1 F hr b l hg T.glob ha nd se sn
theorem pmk_own0 (T : Own X.prog X.w X.K X.mg X.base x C []) (hr : Room 2 X.A) (hg : Gl X x) (nd : (x == ("__debug__" : Str)) = false := by decide) : PMk X (.Call (.Name x p) [] [] pos) (tPmk C [] tNil) := by
  obtain ⟨fI, fd, ps, B, n1, n2, bm, T1, F, b, l⟩ := T.made
  exact pmk_xk0 T1 F hr b l hg T.glob nd
end
section
variable {P : Program} {w : World} {K : PySem.W.Frag} {mg : Str → Option Value} {base : Heap}
theorem valD_no {d : PyData} (h : ¬ valD d = true) : kd d = 0 := by
  unfold valD at h
  simpa using h
theorem valD_yes {d : PyData} (h : valD d = true) : kd d ≠ 0 := by
  unfold valD at h
  simpa using h
/-- of two that are values: their kinds, by the name that the program gives them -/
theorem kindT_eq {d e : PyData} (h1 : kd d ≠ 0) (h2 : kd e ≠ 0) : kindT d = kindT e ↔ kd d = kd e := by
  have one : ∀ {d : PyData}, kd d ≠ 0 → (isS d = true ∧ kd d = 2) ∨ (isS d = false ∧ kd d = 1) := fun {d} h => by
    cases d with
    | int i => exact .inr ⟨rfl, rfl⟩
    | str x =>
      refine .inl ⟨rfl, ?_⟩
      by_cases z : allLet x = true ∧ x.length ≤ 12
      · exact kd_yes z
      · exact absurd (kd_no z) h
    | _ => exact absurd rfl h
  have ne : ("text" : Str) ≠ "number" := by decide
  unfold kindT
  rcases one h1 with ⟨a1, a2⟩ | ⟨a1, a2⟩ <;> rcases one h2 with ⟨b1, b2⟩ | ⟨b1, b2⟩ <;> rw [a1, b1, a2, b2]
  · simp
  · simp [ne]
  · simp [Ne.symm ne]
  · simp
/-- the sign of two values, or what is raised -/
def spSign (CI CU : Addr) : Sp := fun vs H Q E => ∃ v u d e, vs = [v, u] ∧ Dt true H v d ∧ Dt true H u e ∧ Thing d ∧ Thing e ∧ (kd d ≠ 0 → kd e ≠ 0 → kd d = kd e → ∀ H', Same H H' → Q (.int (sgn d e)) H') ∧
  (kd d ≠ 0 → kd e ≠ 0 → kd d ≠ kd e → ∀ o H', Same H H' → ExS H' o [] → E (.ref CU) o H') ∧ (kd d = 0 → ∀ o H', Same H H' → ExS H' o [("value", v)] → E (.ref CI) o H') ∧ (kd d ≠ 0 → kd e = 0 → ∀ o H', Same H H' → ExS H' o [("value", u)] → E (.ref CI) o H')
theorem ok_sign {CI CU f f1 f2 f3 : Addr} {fd d1 d2 d3 : FuncData} (F : Fun K "sign_of" "sign_of" s_sign_of f fd) (OI : Own P w K mg base "InvalidValue" CI ["value"]) (OU : Own P w K mg base "Unlike" CU [])
    (F_is_value : Fun K "is_value" "is_value" s_is_value f1 d1) (b_is_value : Binds K d1 ["value"] []) (g_is_value : mg "is_value" = some (.ref f1)) (G_is_value : FnOk P w K mg base CX0 2 f1 d1 ["value"] (spAsk valD))
    (F_kind_of_value : Fun K "kind_of_value" "kind_of_value" s_kind_of_value f2 d2) (b_kind_of_value : Binds K d2 ["value"] []) (g_kind_of_value : mg "kind_of_value" = some (.ref f2)) (T : Blt mg)
    (F_sign_between : Fun K "sign_between" "sign_between" s_sign_between f3 d3) (b_sign_between : Binds K d3 ["one", "other"] []) (g_sign_between : mg "sign_between" = some (.ref f3)) :
    FnOk P w K mg base (L2.CX P w) 3 f fd ["one", "other"] (spSign CI CU) := by
  have sc := sc_sign_of
  have G_kind_of_value : FnOk P w K mg base CX0 1 f2 d2 ["value"] spKindOf := ok_kind_of F_kind_of_value T
  have G_sign_between : FnOk P w K mg base CX0 1 f3 d3 ["one", "other"] spBetween := ok_between F_sign_between
  refine Fun.okX F sc (fun vs H Q E h => ?_) (fun cdv A outer s H vs Q E hr h => ?_)
  · obtain ⟨v, u, d, e, rfl, _⟩ := h
    rfl
  · obtain ⟨v, u, d, e, rfl, hd, he, nd, ne, q1, q2, q3, q4⟩ := h
    refine ⟨_, (pss_cons (ps_for (passes_of rfl) (by rfl) (pi_tup (pe_tup (pa_cons (pv 0) (pa_cons (pv 1) pa_nil)))) (pg_name (i := 2) sc.nd rfl (.inl rfl)) (pss_one (ps_if (pt_not (pt_val (pe_call G_is_value (hr.mono (by decide)) (by rfl) g_is_value F_is_value.kp b_is_value .nil pass0 (pa_cons (pv 2) pa_nil)))) (pss_one (ps_raise rfl (takes_of rfl rfl rfl rfl) (pmk_own1 OI (hr.mono (by decide)) (by rfl) (pa_cons (pv 2) pa_nil)))) pss_nil)))
      (pss_cons (ps_if (pt_cmpR op_ne (pe_call G_kind_of_value (hr.mono (by decide)) (by rfl) g_kind_of_value F_kind_of_value.kp b_kind_of_value .nil pass0 (pa_cons (pv 0) pa_nil)) (pe_call G_kind_of_value (hr.mono (by decide)) (by rfl) g_kind_of_value F_kind_of_value.kp b_kind_of_value .nil pass0 (pa_cons (pv 1) pa_nil)) (nomark _)) (pss_one (ps_raise rfl (takes_of rfl rfl rfl rfl) (pmk_own0 OU (hr.mono (by decide)) (by rfl)))) pss_nil)
      (pss_one (ps_ret (pe_call G_sign_between (hr.mono (by decide)) (by rfl) g_sign_between F_sign_between.kp b_sign_between .nil pass0 (pa_cons (pv 0) (pa_cons (pv 1) pa_nil))))))), ?_⟩
    refine ⟨_, rfl, _, rfl, by show 2 ≤ sizeLine; decide, fun p hp => ⟨p, rfl, ⟨_, SqT.of upd_same⟩, ?_⟩⟩
    have at0 : upd H p (.tup [v, u]) p = some (.tup [v, u]) := upd_same
    have s0 : Same H (upd H p (.tup [v, u])) := same_new hp
    generalize upd H p (.tup [v, u]) = H0 at at0 s0 ⊢
    refine for_tup (xs := [v, u]) (fun i σ G => ∃ y, σ = [some v, some u, y] ∧ Same H0 G ∧ (1 ≤ i → kd d ≠ 0) ∧ (2 ≤ i → kd e ≠ 0)) ⟨none, rfl, Same.refl _, fun z => by omega, fun z => by omega⟩ (fun i σ G _ ⟨_, _, k, _⟩ => SqT.of (k _ _ at0)) ?_ ?_
    · rintro i x σ G hx ⟨y, rfl, k, v1, v2⟩
      have t1 := s0.trans k
      match i, hx with
      | 0, hx =>
        cases hx
        refine ⟨_, rfl, v, d, rfl, hd.same t1, nd, fun H1 s1 => ⟨_, rfl, ite2 (fun a => ?_) (fun a => ?_)⟩⟩
        · refine ⟨_, rfl, rfl, (by show 1 ≤ 1000; decide), fun o H3 s3 xs => q3 (valD_no (by simpa using a)) o H3 (t1.trans (s1.trans s3)) xs⟩
        · exact ⟨_, rfl, k.trans s1, fun _ => valD_yes (by simpa using a), fun z => by omega⟩
      | 1, hx =>
        cases hx
        refine ⟨_, rfl, u, e, rfl, he.same t1, ne, fun H1 s1 => ⟨_, rfl, ite2 (fun a => ?_) (fun a => ?_)⟩⟩
        · refine ⟨_, rfl, rfl, (by show 1 ≤ 1000; decide), fun o H3 s3 xs => q4 (v1 (Nat.le_refl _)) (valD_no (by simpa using a)) o H3 (t1.trans (s1.trans s3)) xs⟩
        · exact ⟨_, rfl, k.trans s1, fun _ => v1 (Nat.le_refl _), fun _ => valD_yes (by simpa using a)⟩
      | i + 2, hx => cases hx
    · rintro σ G ⟨y, rfl, k, v1, v2⟩
      have t1 := s0.trans k
      have k1 := v1 (by show 1 ≤ 2; decide)
      have k2 := v2 (by show 2 ≤ 2; decide)
      refine ⟨_, rfl, v, d, rfl, hd.same t1, _, rfl, u, e, rfl, he.same t1, ?_⟩
      refine ⟨rfl, _, rfl, ite2 (fun a => ?_) (fun a => ?_)⟩
      · have nk : kd d ≠ kd e := fun z => by
          rw [(kindT_eq k1 k2).mpr z, decide_eq_true rfl] at a
          cases a
        exact ⟨rfl, Nat.zero_le _, fun o H3 s3 xs => q2 k1 k2 nk o H3 (t1.trans s3) xs⟩
      · have yk : kd d = kd e := (kindT_eq k1 k2).mp (Classical.byContradiction fun z => a (by rw [decide_eq_false (fun y => z (V.str.inj y))]; rfl))
        exact ⟨_, rfl, _, rfl, v, u, d, e, rfl, hd.same t1, he.same t1, k1, yk, q1 k1 k2 yk G t1⟩
end
end K12

set_option Elab.async false
set_option linter.all false
set_option maxRecDepth 100000
set_option maxHeartbeats 8000000
namespace K12
open PySem PySem.Spec L2 PSG
open PyProof.Rows (IntsAre AllBare)
abbrev s__law_kind : Stmt := topS 26
theorem sc__law_kind : FnScope ["_law_thing", "_law_letter"] ["_law_thing"] (defScope s__law_kind) := ⟨rfl, rfl, rfl, by decide +kernel, rfl, by decide +kernel, by decide +kernel⟩
abbrev s__law_text_sign : Stmt := topS 27
theorem sc__law_text_sign : FnScope ["_law_first", "_law_second", "_law_letters", "_law_a", "_law_b"] ["_law_first", "_law_second"] (defScope s__law_text_sign) := ⟨rfl, rfl, rfl, by decide +kernel, rfl, by decide +kernel, by decide +kernel⟩
abbrev s__law_number_sign : Stmt := topS 28
theorem sc__law_number_sign : FnScope ["_law_first", "_law_second"] ["_law_first", "_law_second"] (defScope s__law_number_sign) := ⟨rfl, rfl, rfl, by decide +kernel, rfl, by decide +kernel, by decide +kernel⟩
abbrev s__law_due : Stmt := topS 29
theorem sc__law_due : FnScope ["_law_first", "_law_second", "_law_thing"] ["_law_first", "_law_second"] (defScope s__law_due) := ⟨rfl, rfl, rfl, by decide +kernel, rfl, by decide +kernel, by decide +kernel⟩

/-! ### texts in sequence, by letters -/
theorem lt_at : ∀ (i : Nat) (l m : List Nat) (c d : Nat), (∀ j, j < i → l[j]? = m[j]?) → l[i]? = some c → m[i]? = some d → c ≠ d → (l < m ↔ c < d)
  | 0, [], _, _, _, _, h, _, _ => by simp at h
  | 0, _ :: _, [], _, _, _, _, h, _ => by simp at h
  | 0, a :: l, b :: m, c, d, _, h1, h2, ne => by
    have e1 : a = c := by simpa using h1
    have e2 : b = d := by simpa using h2
    subst e1 e2
    rw [List.cons_lt_cons_iff]
    exact ⟨fun z => z.elim id fun y => absurd y.1 ne, .inl⟩
  | i + 1, [], _, _, _, _, h, _, _ => by simp at h
  | i + 1, _ :: _, [], _, _, _, _, h, _ => by simp at h
  | i + 1, a :: l, b :: m, c, d, h, h1, h2, ne => by
    have e : a = b := by simpa using h 0 (Nat.succ_pos _)
    subst e
    rw [List.cons_lt_cons_iff]
    have ih := lt_at i l m c d (fun j hj => by simpa using h (j + 1) (Nat.succ_lt_succ hj)) (by simpa using h1) (by simpa using h2) ne
    exact ⟨fun z => z.elim (fun y => absurd y (Nat.lt_irrefl _)) fun y => ih.mp y.2, fun z => .inr ⟨rfl, ih.mpr z⟩⟩
theorem lt_len : ∀ l m : List Nat, (∀ j, j < l.length → j < m.length → l[j]? = m[j]?) → (l < m ↔ l.length < m.length)
  | [], [], _ => by simp
  | [], _ :: _, _ => by simp
  | _ :: _, [], _ => by simp
  | a :: l, b :: m, h => by
    have e : a = b := by simpa using h 0 (Nat.succ_pos _) (Nat.succ_pos _)
    subst e
    rw [List.cons_lt_cons_iff, List.length_cons, List.length_cons, Nat.add_lt_add_iff_right]
    have ih := lt_len l m fun j h1 h2 => by simpa using h (j + 1) (Nat.succ_lt_succ h1) (Nat.succ_lt_succ h2)
    exact ⟨fun z => z.elim (fun y => absurd y (Nat.lt_irrefl _)) fun y => ih.mp y.2, fun z => .inr ⟨rfl, ih.mpr z⟩⟩
theorem abc_index : ∀ c ∈ abc.cps.toList, Builtin.Str.occurrences abc ⟨#[c]⟩ 0 abc.length 1 = [c - 97] ∧ 97 ≤ c := by
  have h : (abc.cps.toList.all fun c => decide (Builtin.Str.occurrences abc ⟨#[c]⟩ 0 abc.length 1 = [c - 97]) && decide (97 ≤ c)) = true := by decide +kernel
  intro c hc
  have z := List.all_eq_true.mp h c hc
  simp only [Bool.and_eq_true, decide_eq_true_eq] at z
  exact z
theorem let_at {x : Str} (h : allLet x = true) {i c : Nat} (e : x.cps[i]? = some c) : c ∈ abc.cps.toList := by
  unfold allLet lets at h
  rw [List.all_map, List.all_eq_true] at h
  have m : c ∈ x.cps.toList := by
    rw [← Array.getElem?_toList] at e
    exact List.mem_of_getElem? e
  exact of_decide_eq_true (h c m)
/-! ### the law's own judgement -/
def kindV (d : PyData) : V := if kd d = 1 then .str "number" else if kd d = 2 then .str "text" else .non
def sgnI (i j : Int) : Int := if i < j then -1 else if j < i then 1 else 0
/-- what is due -/
def out (d e : PyData) : List Str := if kd d = 0 then ["invalid", d.shown] else if kd e = 0 then ["invalid", e.shown] else if kd d ≠ kd e then ["unlike"] else ["told", (PyData.int (sgn d e)).shown]
theorem rep_thing {H : Hp} {v : V} {d : PyData} {Q : VK} (hd : Dt true H v d) (n : Fine d) (q : Q (.str d.shown) H) : rRep [v] H Q := by
  have h1 := n.ln
  have h2 := n.dp
  exact ⟨v, d, true, rfl, hd, fun _ => .inl rfl, n.sh, by rw [sizeLine_eq]; omega, by omega, q⟩
theorem ofString_ok (s : String) : PyData.strOk (Str.ofString s) = true := by
  unfold PyData.strOk
  rw [Str.ofString_eq_toList, Array.all_eq_true_iff_forall_mem]
  intro c hc
  simp only [List.mem_toArray, List.mem_map] at hc
  obtain ⟨ch, _, rfl⟩ := hc
  have v : ch.val.toNat < 0xd800 ∨ (0xdfff < ch.val.toNat ∧ ch.val.toNat < 0x110000) := ch.valid
  have e : ch.toNat = ch.val.toNat := rfl
  refine decide_eq_true ?_
  omega
theorem nice_small {i : Int} (h : i.natAbs ≤ 10 ^ 31) : Fine (.int i) := by
  refine ⟨?_, ?_, by simp [PyData.depth], ofString_ok _⟩
  · have lg : i.natAbs.log2 < 1920 := PySem.Flt.log2_lt_of (by decide) (Nat.lt_of_le_of_lt h (by decide +kernel))
    exact decide_eq_true lg
  · have e := PySem.int_text_length_le10 (k := 32) (a := i) (by decide) (Nat.lt_of_le_of_lt h (by decide +kernel))
    show (Str.ofString (toString i)).length ≤ 1000
    rw [PySem.ofString_length]
    omega
theorem sgnI_small (i j : Int) : (sgnI i j).natAbs ≤ 10 ^ 31 := by
  unfold sgnI
  split
  · decide +kernel
  · split <;> decide +kernel
theorem sgn_small (d e : PyData) : (sgn d e).natAbs ≤ 10 ^ 31 := by
  unfold sgn
  split
  · exact sgnI_small _ _
  · split
    · decide +kernel
    · split <;> decide +kernel
  · decide +kernel
section
variable {P : Program} {w : World} {K : PySem.W.Frag} {mg : Str → Option Value} {base : Heap}
def spKind : Sp := fun vs H Q _ => ∃ v d, vs = [v] ∧ Dt true H v d ∧ Thing d ∧ ∀ H', Same H H' → Q (kindV d) H'
theorem ok_kind {f : Addr} {fd : FuncData} (F : Fun K "_law_kind" "_law_kind" s__law_kind f fd) (T : Blt mg) : FnOk P w K mg base CX0 1 f fd ["_law_thing"] spKind := by
  have sc := sc__law_kind
  refine F.ok sc (fun vs H Q E h => ?_) (fun cdv A outer s H vs Q E hr h => ?_)
  · obtain ⟨v, d, rfl, _⟩ := h
    rfl
  · obtain ⟨v, d, rfl, hd, nd, q⟩ := h
    refine ⟨_, (pss_cons (ps_if (PW.pt (pw_and (pt_val (pe_callB call_isi (by rfl) T.n_isinstance (by decide +kernel) (pa_cons (pv 0) (pa_cons (pe_bltn (v := .ty "int") (by rfl) T.n_int (by decide +kernel) rfl) pa_nil)))) (pw_and1 (pt_not (pt_val (pe_callB call_isi (by rfl) T.n_isinstance (by decide +kernel) (pa_cons (pv 0) (pa_cons (pe_bltn (v := .ty "bool") (by rfl) T.n_bool (by decide +kernel) rfl) pa_nil)))))))) (pss_one (ps_ret pe_str)) pss_nil)
      (pss_cons (ps_if (PW.pt (pw_or (pt_not (pt_val (pe_callB call_isi (by rfl) T.n_isinstance (by decide +kernel) (pa_cons (pv 0) (pa_cons (pe_bltn (v := .ty "str") (by rfl) T.n_str (by decide +kernel) rfl) pa_nil))))) (pw_or1 (pt_cmpR op_gt (pe_callB call_len_str (by rfl) T.n_len PySem.boot_len (pa_cons (pv 0) pa_nil)) pe_int (nomark _))))) (pss_one (ps_ret pe_non)) pss_nil)
      (pss_one (ps_ret (pe_ifExp (pt_val (pe_callB (cr_all rfl) (by rfl) T.n_all (by decide +kernel) (pa_cons (pe_lc (own := [("_law_letter", 1)]) (g := gName 1) (tt := tYes) (by rfl) sc.nd (pi_str (pv 0)) (blkOk_by (own := [("_law_letter", 1)]) (N := ["_law_thing", "_law_letter"]) (sc := defScope s__law_kind) (by decide +kernel)) (fun _ _ _ _ _ => pg_name (i := 1) sc.nd rfl (Or.inl rfl)) (fun _ _ _ _ _ => pts_nil) (fun _ _ _ _ _ => (pe_cmpR op_in_sign (pv 1) pe_str (by rfl)))) pa_nil))) pe_str pe_non))))), ?_⟩
    have sq := q H (Same.refl _)
    cases d with
    | int i => exact ⟨_, rfl, v, .ty "int", _, _, _, rfl, .ty _, Dt.ty hd, kit_int _, _, rfl, _, rfl, v, .ty "bool", _, _, _, rfl, .ty _, Dt.ty hd, kit_bool _, _, rfl, sq⟩
    | bool b => exact ⟨_, rfl, v, .ty "int", _, _, _, rfl, .ty _, Dt.ty hd, kit_int _, _, rfl, _, rfl, v, .ty "bool", _, _, _, rfl, .ty _, Dt.ty hd, kit_bool _, _, rfl, _, rfl, v, .ty "str", _, _, _, rfl, .ty _, Dt.ty hd, kit_str _, _, rfl, sq⟩
    | str x =>
      cases hd
      have few := nd.sm x rfl
      have hd : Dt true H (.str x) (.str x) := .str x
      refine ⟨_, rfl, .str x, .ty "int", _, _, _, rfl, .ty _, Dt.ty hd, kit_int _, _, rfl, _, rfl, .str x, .ty "str", _, _, _, rfl, .ty _, Dt.ty hd, kit_str _, _, rfl, _, rfl, x, rfl, (by rw [sizeLine_eq]; omega), _, _, rfl, rfl, _, rfl, ?_⟩
      have ll : (lets x).length = x.cps.size := by
        unfold lets
        rw [List.length_map, Array.length_toList]
      refine ite2 (fun a => ?_) (fun a => ?_)
      · have big : ¬ x.length ≤ 12 := fun z => by have z2 := of_decide_eq_true a; omega
        have e : kindV (.str x) = .non := by
          unfold kindV
          rw [kd_no fun z => big z.2]
          rfl
        rw [e] at sq
        exact sq
      · have small : x.length ≤ 12 := Classical.byContradiction fun z => a (decide_eq_true (by omega))
        refine ⟨_, rfl, x, rfl, fun p hp => lc_str (fun j G => Same H G ∧ G p = some (.lst (((lets x).take j).map V.bl))) ⟨same_new hp, upd_same⟩ ?_ ?_⟩
        · rintro i c G hc ⟨sm, at_⟩
          refine ⟨rfl, ?_⟩
          refine ⟨_, rfl, c, abc, rfl, rfl, _, at_, ?_, fun b o z => (upd_ne (ne_of_none z hp)).trans (sm _ _ z), ?_⟩
          · rw [List.length_map, List.length_take, ll]
            have e3 : x.cps.size ≤ 100 := few
            rw [sizeLine_eq]
            omega
          · have e2 : (lets x)[i]? = some (decide (c ∈ abc.cps.toList)) := by
              unfold lets
              rw [List.getElem?_map, Array.getElem?_toList, hc]
              rfl
            rw [upd_same, List.take_add_one, e2, List.map_append]
            rfl
        · rintro G ⟨sm, at_⟩
          rw [← ll, List.take_length] at at_
          have q' := q G sm
          refine ⟨p, lets x, rfl, SqL.of at_, _, rfl, ite2 (fun e => ?_) (fun e => ?_)⟩
          · have e4 : kindV (.str x) = .str "text" := by
              unfold kindV
              rw [kd_yes ⟨e, small⟩]
              rfl
            rw [e4] at q'
            exact q'
          · have e4 : kindV (.str x) = .non := by
              unfold kindV
              rw [kd_no fun z => e z.1]
              rfl
            rw [e4] at q'
            exact q'
    | _ => exact ⟨_, rfl, v, .ty "int", _, _, _, rfl, .ty _, Dt.ty hd, kit_int _, _, rfl, _, rfl, v, .ty "str", _, _, _, rfl, .ty _, Dt.ty hd, kit_str _, _, rfl, sq⟩
def spNumSign : Sp := fun vs H Q _ => ∃ i j : Int, vs = [.int i, .int j] ∧ ∀ H', Same H H' → Q (.int (sgnI i j)) H'
theorem ok_num_sign {f : Addr} {fd : FuncData} (F : Fun K "_law_number_sign" "_law_number_sign" s__law_number_sign f fd) (T : Blt mg) : FnOk P w K mg base CX0 1 f fd ["_law_first", "_law_second"] spNumSign := by
  have sc := sc__law_number_sign
  refine F.ok sc (fun vs H Q E h => ?_) (fun cdv A outer s H vs Q E hr h => ?_)
  · obtain ⟨i, j, rfl, _⟩ := h
    rfl
  · obtain ⟨i, j, rfl, q⟩ := h
    refine ⟨_, (pss_cons (ps_if (pt_cmpR op_eq (pv 0) (pv 1) (nomark _)) (pss_one (ps_ret pe_int)) pss_nil)
      (pss_one (ps_ret (pe_ix ix_list (pe_lst (pa_cons pe_int (pa_cons (pe_un un_neg pe_int) pa_nil))) (pe_callTy call_int1 (by rfl) T.n_int (by decide +kernel) (pa_cons (pe_cmpR op_gt (pe_op op_sub (pv 1) (pv 0)) pe_int (nomark _)) pa_nil)) (fun _ _ => rfl))))), ?_⟩
    refine ⟨_, rfl, _, rfl, rfl, _, rfl, ite2 (fun e => ?_) (fun e => ?_)⟩
    · have e2 : i = j := V.int.inj (of_decide_eq_true e)
      have q' := q H (Same.refl _)
      subst e2
      have e3 : sgnI i i = 0 := by
        unfold sgnI
        rw [if_neg (Int.lt_irrefl _), if_neg (Int.lt_irrefl _)]
      rw [e3] at q'
      exact q'
    · have ne : i ≠ j := fun z => e (decide_eq_true (congrArg V.int z))
      refine ⟨_, rfl, (by show 2 ≤ sizeLine; decide), fun p hp => ?_⟩
      have at_ : upd H p (.lst [.int 1, .int (-1)]) p = some (.lst [.int 1, .int (-1)]) := upd_same
      have q' := q _ (same_new (o := .lst [.int 1, .int (-1)]) hp)
      refine ⟨_, rfl, _, rfl, _, _, rfl, rfl, _, _, rfl, rfl, .inr ⟨_, rfl, ?_⟩⟩
      by_cases lt : i < j
      · have e3 : decide ((0 : Int) < j - i) = true := decide_eq_true (by omega)
        have e4 : sgnI i j = -1 := if_pos lt
        rw [e3]
        rw [e4] at q'
        exact ⟨p, _, _, _, rfl, rfl, SqL.of at_, atI_nat (j := 1) rfl, q'⟩
      · have e3 : decide ((0 : Int) < j - i) = false := decide_eq_false (by omega)
        have e4 : sgnI i j = 1 := by
          unfold sgnI
          rw [if_neg lt, if_pos (by omega)]
        rw [e3]
        rw [e4] at q'
        exact ⟨p, _, _, _, rfl, rfl, SqL.of at_, atI_nat (j := 0) rfl, q'⟩
end
end K12

set_option Elab.async false
set_option linter.all false
set_option maxRecDepth 100000
set_option maxHeartbeats 8000000
namespace K12
open PySem PySem.Spec L2 PSG
open PyProof.Rows (IntsAre AllBare)

theorem abc_sgn {c d : Nat} (hc : c ∈ abc.cps.toList) (hd : d ∈ abc.cps.toList) : (d - 97 < c - 97) ↔ d < c := by
  have h1 := (abc_index c hc).2
  have h2 := (abc_index d hd).2
  omega
theorem okG {P : Program} {w : World} {K : PySem.W.Frag} {mg : Str → Option Value} {base : Heap} {x ql : Str} {st : Stmt} {f : Addr} {fd : FuncData} {N ps : List Str} {n : Nat} {sp : Sp} (F : Fun K x ql st f fd) (S : FnScope N ps (defScope st))
    (many : ∀ vs H Q E, sp vs H Q E → vs.length = ps.length)
    (main : ∀ (cdv : Value) (B : Around) (up : List Env) (s : Shared) (H : Hp) (vs : List V) (Q : VK) (E : XK), Room n (B.deeper (PyProof.Rows.envOfC ql (defScope st) s.heap.objs.size f cdv)) → B.guards = some [] → sp vs H Q E →
      ∃ t, PSs (cxOf CX0 P w K mg base N ql (defScope st) f cdv B up s H E).nox (defBody st) t ∧ t { nx := fun _ G => Q .non G, rt := Q } (start N vs) H) : FnG P w K mg base CX0 (n + 1) f fd ps sp := by
  obtain ⟨oc, od, kV, doc, pm, an, cdv, ct, osl, rfl, lk, hcd⟩ := F.ex
  refine fnG lk hcd S many fun B up s H vs Q E room gd ho => ?_
  obtain ⟨t, der, rd⟩ := main cdv B up s H vs Q E room gd ho
  exact ⟨t, der.nox, rd⟩
section
variable {P : Program} {w : World} {K : PySem.W.Frag} {mg : Str → Option Value} {base : Heap}
def spTextSign : Sp := fun vs H Q _ => ∃ x y : Str, vs = [.str x, .str y] ∧ allLet x = true ∧ allLet y = true ∧ x.length ≤ 12 ∧ y.length ≤ 12 ∧ ∀ H', Same H H' → Q (.int (sgn (.str x) (.str y))) H'
theorem ok_text_sign {f f1 : Addr} {fd d1 : FuncData} (F : Fun K "_law_text_sign" "_law_text_sign" s__law_text_sign f fd) (T : Blt mg)
    (F__law_number_sign : Fun K "_law_number_sign" "_law_number_sign" s__law_number_sign f1 d1) (b__law_number_sign : Binds K d1 ["_law_first", "_law_second"] []) (g__law_number_sign : mg "_law_number_sign" = some (.ref f1)) : FnOk P w K mg base CX0 2 f fd ["_law_first", "_law_second"] spTextSign := by
  have sc := sc__law_text_sign
  have G__law_number_sign : FnOk P w K mg base CX0 1 f1 d1 _ spNumSign := ok_num_sign F__law_number_sign T
  refine F.ok sc (fun vs H Q E h => ?_) (fun cdv A outer s H vs Q E hr h => ?_)
  · obtain ⟨x, y, rfl, _⟩ := h
    rfl
  · obtain ⟨x, y, rfl, lx, ly, sx, sy, q⟩ := h
    refine ⟨_, (pss_cons (ps_set (i := 2) sc.nd rfl (.inl rfl) pe_str)
      (pss_cons (ps_for PassesOwn.never (by rfl) (pi_zipS (by rfl) T.n_zip (pa_cons (pv 0) (pa_cons (pv 1) pa_nil))) (pg_tup (by rfl) (pgs_cons (pg_name (i := 3) sc.nd rfl (.inl rfl)) (pgs_cons (pg_name (i := 4) sc.nd rfl (.inl rfl)) pgs_nil))) (pss_one (ps_if (pt_cmpR op_ne (pv 3) (pv 4) (nomark _)) (pss_one (ps_ret (pe_ix ix_list (pe_lst (pa_cons (pe_un un_neg pe_int) (pa_cons pe_int pa_nil))) (pe_callTy call_int1 (by rfl) T.n_int (by decide +kernel) (pa_cons (pe_cmpR op_gt (pe_m1 PySem.F.slot_str_index PySem.F.type_str_index mt_sindex (pv 2) (pv 3)) (pe_m1 PySem.F.slot_str_index PySem.F.type_str_index mt_sindex (pv 2) (pv 4)) (nomark _)) pa_nil)) (fun _ _ => rfl)))) pss_nil)))
      (pss_one (ps_ret (pe_call G__law_number_sign (hr.mono (by decide)) (by rfl) g__law_number_sign F__law_number_sign.kp b__law_number_sign .nil pass0 (pa_cons (pe_callB call_len_str (by rfl) T.n_len PySem.boot_len (pa_cons (pv 0) pa_nil)) (pa_cons (pe_callB call_len_str (by rfl) T.n_len PySem.boot_len (pa_cons (pv 1) pa_nil)) pa_nil))))))), ?_⟩
    refine ⟨_, rfl, _, rfl, x, y, rfl, for_zipS (fun i σ G => ∃ u1 u2, σ = [some (.str x), some (.str y), some (.str abc), u1, u2] ∧ Same H G ∧ ∀ j, j < i → x.cps.toList[j]? = y.cps.toList[j]?) ⟨none, none, rfl, Same.refl _, fun j h => absurd h (Nat.not_lt_zero _)⟩ ?_ ?_⟩
    · rintro i c d p σ G hc hd ⟨u1, u2, rfl, s0, eq⟩ hp
      have mc := let_at lx hc
      have md := let_at ly hd
      have ec : x.cps.toList[i]? = some c := by rw [Array.getElem?_toList]; exact hc
      have ed : y.cps.toList[i]? = some d := by rw [Array.getElem?_toList]; exact hd
      have s1 : Same G (upd G p (.tup [.str ⟨#[c]⟩, .str ⟨#[d]⟩])) := same_new hp
      refine ⟨p, _, rfl, .inl (.inl upd_same), rfl, _, _, rfl, _, _, rfl, rfl, ?_⟩
      generalize upd G p (.tup [.str ⟨#[c]⟩, .str ⟨#[d]⟩]) = G1 at s1 ⊢
      refine ⟨_, rfl, _, rfl, rfl, _, rfl, ite2 (fun a => ?_) (fun a => ?_)⟩
      · have ne : c ≠ d := fun z => by
          rw [z, decide_eq_true rfl] at a
          cases a
        refine ⟨_, rfl, (by show 2 ≤ sizeLine; decide), fun l hl => ?_⟩
        have at_ : upd G1 l (.lst [.int (-1), .int 1]) l = some (.lst [.int (-1), .int 1]) := upd_same
        have q' := q _ (s0.trans (s1.trans (same_new (o := .lst [.int (-1), .int 1]) hl)))
        refine ⟨_, rfl, ⟨_, rfl⟩, _, rfl, abc, ⟨#[c]⟩, c - 97, [], rfl, rfl, (abc_index c mc).1, _, rfl, ⟨_, rfl⟩, _, rfl, abc, ⟨#[d]⟩, d - 97, [], rfl, rfl, (abc_index d md).1, _, _, rfl, rfl, .inr ⟨_, rfl, ?_⟩⟩
        have k1 := lt_at i _ _ c d eq ec ed ne
        have k2 := lt_at i _ _ d c (fun j hj => (eq j hj).symm) ed ec (Ne.symm ne)
        have e5 : sgn (.str x) (.str y) = if x.cps.toList < y.cps.toList then -1 else if y.cps.toList < x.cps.toList then 1 else 0 := rfl
        by_cases lt : d < c
        · have e3 : decide (((d - 97 : Nat) : Int) < ((c - 97 : Nat) : Int)) = true := decide_eq_true (Int.ofNat_lt.mpr ((abc_sgn mc md).mpr lt))
          have e4 : sgn (.str x) (.str y) = 1 := by
            rw [e5, if_neg (fun z => by have := k1.mp z; omega), if_pos (k2.mpr lt)]
          rw [e3]
          rw [e4] at q'
          exact ⟨l, _, _, _, rfl, rfl, SqL.of at_, atI_nat (j := 1) rfl, q'⟩
        · have e3 : decide (((d - 97 : Nat) : Int) < ((c - 97 : Nat) : Int)) = false := decide_eq_false fun z => lt ((abc_sgn mc md).mp (Int.ofNat_lt.mp z))
          have e4 : sgn (.str x) (.str y) = -1 := by
            rw [e5, if_pos (k1.mpr (by omega))]
          rw [e3]
          rw [e4] at q'
          exact ⟨l, _, _, _, rfl, rfl, SqL.of at_, atI_nat (j := 0) rfl, q'⟩
      · have e : c = d := Classical.byContradiction fun z => a (by rw [decide_eq_false (fun y => z (by cases V.str.inj y; rfl))]; rfl)
        subst e
        refine ⟨_, _, rfl, s0.trans s1, fun j hj => ?_⟩
        by_cases ej : j = i
        · rw [ej, ec, ed]
        · exact eq j (by omega)
    · rintro i σ G fin l1 l2 ⟨u1, u2, rfl, s0, eq⟩
      refine ⟨_, rfl, x, rfl, (by rw [sizeLine_eq]; omega), _, rfl, y, rfl, (by rw [sizeLine_eq]; omega), x.length, y.length, rfl, fun H1 s1 => ?_⟩
      have k1 : x.cps.toList < y.cps.toList ↔ x.length < y.length := by
        refine (lt_len _ _ fun j h1 h2 => eq j ?_).trans (by rw [Array.length_toList, Array.length_toList]; exact Iff.rfl)
        rw [Array.length_toList] at h1 h2
        omega
      have k2 : y.cps.toList < x.cps.toList ↔ y.length < x.length := by
        refine (lt_len _ _ fun j h1 h2 => (eq j ?_).symm).trans (by rw [Array.length_toList, Array.length_toList]; exact Iff.rfl)
        rw [Array.length_toList] at h1 h2
        omega
      have e5 : sgn (.str x) (.str y) = if x.cps.toList < y.cps.toList then -1 else if y.cps.toList < x.cps.toList then 1 else 0 := rfl
      have e4 : sgn (.str x) (.str y) = sgnI x.length y.length := by
        unfold sgnI
        rw [e5]
        by_cases h1 : x.length < y.length
        · rw [if_pos (k1.mpr h1), if_pos (Int.ofNat_lt.mpr h1)]
        · rw [if_neg (fun z => h1 (k1.mp z)), if_neg (fun z => h1 (Int.ofNat_lt.mp z))]
          by_cases h2 : y.length < x.length
          · rw [if_pos (k2.mpr h2), if_pos (Int.ofNat_lt.mpr h2)]
          · rw [if_neg (fun z => h2 (k2.mp z)), if_neg (fun z => h2 (Int.ofNat_lt.mp z))]
      have q' := q H1 (s0.trans s1)
      rw [e4] at q'
      exact q'
/-- the list of texts that is due -/
def spDue : Sp := fun vs H Q _ => ∃ v u d e, vs = [v, u] ∧ Dt true H v d ∧ Dt true H u e ∧ Thing d ∧ Thing e ∧ ∀ p H', Same H H' → H' p = some (.lst ((out d e).map V.str)) → Q (.ref p) H'
theorem kindV_non {d : PyData} : decide (kindV d = V.non) = decide (kd d = 0) := by
  unfold kindV
  have le : kd d ≤ 2 := by
    unfold kd
    split
    · decide
    · split <;> decide
    · decide
  by_cases h1 : kd d = 1
  · rw [if_pos h1, h1]
    rfl
  · by_cases h2 : kd d = 2
    · rw [if_neg h1, if_pos h2, h2]
      rfl
    · have h0 : kd d = 0 := by omega
      rw [h0]
      rfl
theorem kindV_val {d : PyData} (h : kd d ≠ 0) : (kd d = 1 ∧ kindV d = .str "number") ∨ (kd d = 2 ∧ kindV d = .str "text") := by
  unfold kindV
  have le : kd d ≤ 2 := by
    unfold kd
    split
    · decide
    · split <;> decide
    · decide
  by_cases h1 : kd d = 1
  · exact .inl ⟨h1, if_pos h1⟩
  · have h2 : kd d = 2 := by omega
    exact .inr ⟨h2, by rw [if_neg h1, if_pos h2]⟩
theorem ok_due {f f1 f2 f3 : Addr} {fd d1 d2 d3 : FuncData} (F : Fun K "_law_due" "_law_due" s__law_due f fd) (T : Blt mg)
    (F__law_number_sign : Fun K "_law_number_sign" "_law_number_sign" s__law_number_sign f1 d1) (b__law_number_sign : Binds K d1 ["_law_first", "_law_second"] []) (g__law_number_sign : mg "_law_number_sign" = some (.ref f1))
    (F__law_text_sign : Fun K "_law_text_sign" "_law_text_sign" s__law_text_sign f2 d2) (b__law_text_sign : Binds K d2 ["_law_first", "_law_second"] []) (g__law_text_sign : mg "_law_text_sign" = some (.ref f2))
    (F__law_kind : Fun K "_law_kind" "_law_kind" s__law_kind f3 d3) (b__law_kind : Binds K d3 ["_law_thing"] []) (g__law_kind : mg "_law_kind" = some (.ref f3)) : FnG P w K mg base CX0 3 f fd ["_law_first", "_law_second"] spDue := by
  have sc := sc__law_due
  have G__law_number_sign : FnOk P w K mg base CX0 1 f1 d1 _ spNumSign := ok_num_sign F__law_number_sign T
  have G__law_text_sign : FnOk P w K mg base CX0 2 f2 d2 _ spTextSign := ok_text_sign F__law_text_sign T F__law_number_sign b__law_number_sign g__law_number_sign
  have G__law_kind : FnOk P w K mg base CX0 1 f3 d3 _ spKind := ok_kind F__law_kind T
  refine okG F sc (fun vs H Q E h => ?_) (fun cdv B up s H vs Q E hr gd h => ?_)
  · obtain ⟨v, u, d, e, rfl, _⟩ := h
    rfl
  · obtain ⟨v, u, d, e, rfl, hd, he, nd, ne, k⟩ := h
    refine ⟨_, (pss_cons (ps_for PassesOwn.never (by rfl) (pi_tup (pe_tup (pa_cons (pv 0) (pa_cons (pv 1) pa_nil)))) (pg_name (i := 2) sc.nd rfl (.inl rfl)) (pss_one (ps_if (pt_cmpR op_isN (pe_call G__law_kind (hr.mono (by decide)) (by rfl) g__law_kind F__law_kind.kp b__law_kind .nil pass0 (pa_cons (pv 2) pa_nil)) pe_non (nomark _)) (pss_one (ps_ret (pe_lst (pa_cons pe_str (pa_cons (pe_callB (call_reprH (by have z := room_units hr; exact z) gd) (by rfl) T.n_repr (by decide +kernel) (pa_cons (pv 2) pa_nil)) pa_nil))))) pss_nil)))
      (pss_cons (ps_if (pt_cmpR op_ne (pe_call G__law_kind (hr.mono (by decide)) (by rfl) g__law_kind F__law_kind.kp b__law_kind .nil pass0 (pa_cons (pv 0) pa_nil)) (pe_call G__law_kind (hr.mono (by decide)) (by rfl) g__law_kind F__law_kind.kp b__law_kind .nil pass0 (pa_cons (pv 1) pa_nil)) (nomark _)) (pss_one (ps_ret (pe_lst (pa_cons pe_str pa_nil)))) pss_nil)
      (pss_cons (ps_if (pt_cmpR op_eq (pe_call G__law_kind (hr.mono (by decide)) (by rfl) g__law_kind F__law_kind.kp b__law_kind .nil pass0 (pa_cons (pv 0) pa_nil)) pe_str (nomark _)) (pss_one (ps_ret (pe_lst (pa_cons pe_str (pa_cons (pe_callB (call_reprH (by have z := room_units hr; exact z) gd) (by rfl) T.n_repr (by decide +kernel) (pa_cons (pe_call G__law_text_sign (hr.mono (by decide)) (by rfl) g__law_text_sign F__law_text_sign.kp b__law_text_sign .nil pass0 (pa_cons (pv 0) (pa_cons (pv 1) pa_nil))) pa_nil)) pa_nil))))) pss_nil)
      (pss_one (ps_ret (pe_lst (pa_cons pe_str (pa_cons (pe_callB (call_reprH (by have z := room_units hr; exact z) gd) (by rfl) T.n_repr (by decide +kernel) (pa_cons (pe_call G__law_number_sign (hr.mono (by decide)) (by rfl) g__law_number_sign F__law_number_sign.kp b__law_number_sign .nil pass0 (pa_cons (pv 0) (pa_cons (pv 1) pa_nil))) pa_nil)) pa_nil)))))))), ?_⟩
    refine ⟨_, rfl, _, rfl, by show 2 ≤ sizeLine; decide, fun p hp => ⟨p, rfl, ⟨_, SqT.of upd_same⟩, ?_⟩⟩
    have at0 : upd H p (.tup [v, u]) p = some (.tup [v, u]) := upd_same
    have s0 : Same H (upd H p (.tup [v, u])) := same_new hp
    generalize upd H p (.tup [v, u]) = H0 at at0 s0 ⊢
    -- the list that is given back
    have give : ∀ {G : Hp} {l : List Str}, Same H G → l = out d e → ∀ q, G q = none → Q (.ref q) (upd G q (.lst (l.map V.str))) := fun s1 el q hq => k q _ (s1.trans (same_new hq)) (by rw [upd_same, el])
    refine for_tup (xs := [v, u]) (fun i σ G => ∃ y, σ = [some v, some u, y] ∧ Same H0 G ∧ (1 ≤ i → kd d ≠ 0) ∧ (2 ≤ i → kd e ≠ 0)) ⟨none, rfl, Same.refl _, fun z => by omega, fun z => by omega⟩ (fun i σ G _ ⟨_, _, z, _⟩ => SqT.of (z _ _ at0)) ?_ ?_
    · rintro i x σ G hx ⟨y, rfl, z, v1, v2⟩
      have t1 := s0.trans z
      match i, hx with
      | 0, hx =>
        cases hx
        refine ⟨_, rfl, v, d, rfl, hd.same t1, nd, fun H1 s1 => ?_⟩
        refine ⟨rfl, _, rfl, ite2 (fun a => ?_) (fun a => ?_)⟩
        · rw [kindV_non] at a
          have a := of_decide_eq_true a
          refine ⟨_, rfl, ?_⟩
          dsimp only [tNil]
          refine rep_thing (hd.same (t1.trans s1)) nd.nice ⟨(by show 2 ≤ sizeLine; decide), fun q hq => give (l := ["invalid", d.shown]) (t1.trans s1) ?_ q hq⟩
          unfold out
          rw [if_pos a]
        · rw [kindV_non] at a
          exact ⟨_, rfl, z.trans s1, fun _ b => a (decide_eq_true b), fun b => by omega⟩
      | 1, hx =>
        cases hx
        have v1 := v1 (Nat.le_refl _)
        refine ⟨_, rfl, u, e, rfl, he.same t1, ne, fun H1 s1 => ?_⟩
        refine ⟨rfl, _, rfl, ite2 (fun a => ?_) (fun a => ?_)⟩
        · rw [kindV_non] at a
          have a := of_decide_eq_true a
          refine ⟨_, rfl, ?_⟩
          dsimp only [tNil]
          refine rep_thing (he.same (t1.trans s1)) ne.nice ⟨(by show 2 ≤ sizeLine; decide), fun q hq => give (l := ["invalid", e.shown]) (t1.trans s1) ?_ q hq⟩
          unfold out
          rw [if_neg v1, if_pos a]
        · rw [kindV_non] at a
          exact ⟨_, rfl, z.trans s1, fun _ => v1, fun _ b => a (decide_eq_true b)⟩
      | i + 2, hx => cases hx
    · rintro σ G ⟨y, rfl, z, v1, v2⟩
      have t1 := s0.trans z
      have k1 := v1 (by show 1 ≤ 2; decide)
      have k2 := v2 (by show 2 ≤ 2; decide)
      refine ⟨_, rfl, v, d, rfl, hd.same t1, nd, fun H1 s1 => ?_⟩
      refine ⟨_, rfl, u, e, rfl, he.same (t1.trans s1), ne, fun H2 s2 => ?_⟩
      have sc1 : scal (kindV d) (kindV e) = true := by
        rcases kindV_val k1 with ⟨_, a⟩ | ⟨_, a⟩ <;> rcases kindV_val k2 with ⟨_, b⟩ | ⟨_, b⟩ <;> rw [a, b] <;> rfl
      have same : decide (kindV d = kindV e) = decide (kd d = kd e) := by
        rcases kindV_val k1 with ⟨a0, a⟩ | ⟨a0, a⟩ <;> rcases kindV_val k2 with ⟨b0, b⟩ | ⟨b0, b⟩ <;> rw [a, b, a0, b0] <;> rfl
      refine ⟨sc1, _, rfl, ite2 (fun a => ?_) (fun a => ?_)⟩
      · rw [same] at a
        have nk : kd d ≠ kd e := by simpa using a
        refine ⟨(by show 1 ≤ sizeLine; decide), fun q hq => give (l := ["unlike"]) (t1.trans (s1.trans s2)) ?_ q hq⟩
        unfold out
        rw [if_neg k1, if_neg k2, if_pos nk]
      · rw [same] at a
        have yk : kd d = kd e := by simpa using a
        have t2 := t1.trans (s1.trans s2)
        have told : out d e = (["told", (PyData.int (sgn d e)).shown] : List Str) := by
          unfold out
          rw [if_neg k1, if_neg k2, if_neg (fun z => z yk)]
        refine ⟨_, rfl, v, d, rfl, hd.same t2, nd, fun H3 s3 => ?_⟩
        rcases same_kind k1 yk with ⟨i, j, rfl, rfl⟩ | ⟨x, w', rfl, rfl, lx, ly, sx, sy⟩
        · cases hd
          cases he
          refine ⟨rfl, _, rfl, _, rfl, _, rfl, i, j, rfl, fun H4 s4 => ?_⟩
          dsimp only [tNil]
          exact rep_thing (.int _) (nice_small (sgnI_small i j)) ⟨(by show 2 ≤ sizeLine; decide), fun q hq => give (l := ["told", (PyData.int (sgn (.int i) (.int j))).shown]) (t2.trans (s3.trans s4)) told.symm q hq⟩
        · cases hd
          cases he
          have kx : kindV (.str x) = .str "text" := by
            unfold kindV
            rw [kd_yes ⟨lx, sx⟩]
            rfl
          rw [kx]
          refine ⟨rfl, _, rfl, _, rfl, _, rfl, x, w', rfl, lx, ly, sx, sy, fun H4 s4 => ?_⟩
          dsimp only [tNil]
          exact rep_thing (.int _) (nice_small (sgn_small (.str x) (.str w'))) ⟨(by show 2 ≤ sizeLine; decide), fun q hq => give (l := ["told", (PyData.int (sgn (.str x) (.str w'))).shown]) (t2.trans (s3.trans s4)) told.symm q hq⟩
end
end K12

set_option Elab.async false
set_option linter.all false
set_option maxRecDepth 100000
set_option maxHeartbeats 8000000
namespace K12
open PySem PySem.Spec L2 PSG
open PyProof.Rows (IntsAre AllBare)
abbrev s__law_told : Stmt := topS 30
theorem sc__law_told : FnScope ["_law_first", "_law_second", "_law_is_named", "_law_made", "e", "_law_others"] ["_law_first", "_law_second", "_law_is_named"] (defScope s__law_told) := ⟨rfl, rfl, rfl, by decide +kernel, rfl, by decide +kernel, by decide +kernel⟩

/-- what the classes say of one another -/
structure Cls3 (K : PySem.W.Frag) (mg : Str → Option Value) (CI CU CP C1 C2 C3 C4 : Addr) : Prop where
  g_PairError : mg "PairError" = some (.ref CP)
  g_InvalidCount : mg "InvalidCount" = some (.ref C1)
  g_InvalidName : mg "InvalidName" = some (.ref C2)
  g_InvalidText : mg "InvalidText" = some (.ref C3)
  g_InvalidVector : mg "InvalidVector" = some (.ref C4)
  xi : PySem.W.XcC K CI
  xu : PySem.W.XcC K CU
  uu : PySem.W.exmOne K (.ref CU) (.ref CU) = some true
  iu : PySem.W.exmOne K (.ref CI) (.ref CU) = some false
  ip : PySem.W.exmOne K (.ref CI) (.ref CP) = some true
  ur : PySem.W.kitOne K (.ref CU) (.type "RuntimeError") = some true
  up : PySem.W.kitOne K (.ref CU) (.ref CP) = some false
  io : PySem.W.kitAny K (.ref CI) [.ref C1, .ref C2, .ref C3, .ref C4] = some false
  iv : PySem.W.kitOne K (.ref CI) (.type "ValueError") = some true
  ii : PySem.W.kitOne K (.ref CI) (.ref CI) = some true
  no : PySem.W.findIn K (.ref CI) "value" = some none
section
variable {P : Program} {w : World} {K : PySem.W.Frag} {mg : Str → Option Value} {base : Heap}
def spTold : Sp := fun vs H Q _ => ∃ v u d e b, vs = [v, u, .bl b] ∧ Dt true H v d ∧ Dt true H u e ∧ Thing d ∧ Thing e ∧ ∀ p H', Same H H' → H' p = some (.lst ((out d e).map V.str)) → Q (.ref p) H'
set_option maxHeartbeats 40000000 in
theorem ok_told {CI CU CP C1 C2 C3 C4 f f1 : Addr} {fd d1 : FuncData} (F : Fun K "_law_told" "_law_told" s__law_told f fd) (T : Blt mg) (Z : Cls3 K mg CI CU CP C1 C2 C3 C4) (g_InvalidValue : mg "InvalidValue" = some (.ref CI)) (g_Unlike : mg "Unlike" = some (.ref CU))
    (F_sign_of : Fun K "sign_of" "sign_of" s_sign_of f1 d1) (b_sign_of : Binds K d1 ["one", "other"] []) (g_sign_of : mg "sign_of" = some (.ref f1)) (G_sign_of : FnOk P w K mg base (L2.CX P w) 3 f1 d1 ["one", "other"] (spSign CI CU))
    (kb_sign_of : ∀ (s : Shared) (ws : List Value), K.In s.heap → ws.length = 2 → BindsTo s d1 ⟨[], (["one", "other"] : List Str).zip ws⟩ ((["one", "other"] : List Str).zip ws)) : FnG P w K mg base CX0 4 f fd ["_law_first", "_law_second", "_law_is_named"] spTold := by
  have sc := sc__law_told
  refine okG F sc (fun vs H Q E h => ?_) (fun cdv B up s H vs Q E hr gd h => ?_)
  · obtain ⟨v, u, d, e, b, rfl, _⟩ := h
    rfl
  · obtain ⟨v, u, d, e, b, rfl, hd, he, nd, ne, k⟩ := h
    refine ⟨_, (pss_cons (ps_tryCl rfl rfl takes0 (fun W pn xe tk po => (pss_one (ps_set (i := 3) sc.nd rfl (.inl rfl) (pe_lst (pa_cons pe_str (pa_cons (pe_callB (call_reprH (by have z := room_units hr; exact z) gd) (by rfl) T.n_repr (by decide +kernel) (pa_cons (pe_ifExp (pt_val (pv 2)) (pe_callW (ks := ["one", "other"]) G_sign_of (hr.mono (by decide)) (by rfl) g_sign_of F_sign_of.kp kb_sign_of rfl (fun σ => passAt tk σ) (pk_cons (pv 0) (pk_cons (pv 1) pk_nil))) (pe_callS G_sign_of (hr.mono (by decide)) (by rfl) g_sign_of F_sign_of.kp b_sign_of (fun σ => passAt tk σ) (pa_cons (pv 0) (pa_cons (pv 1) pa_nil)))) pa_nil)) pa_nil))))))
      (.named sc.nd (i := 4) rfl rfl (asks_one ⟨by rfl, by decide, .inl g_Unlike⟩) (fun a oe cls d pn hz hf => (pss_one (ps_set (i := 3) sc.nd rfl (.inl rfl) (pe_ifExp (PW.pt (pw_and (pt_val (pe_callB (call_his hz hf) (by rfl) T.n_isinstance (by decide +kernel) (pa_cons (pv 4) (pa_cons (pe_bltn (v := .ty "RuntimeError") (by rfl) T.n_RuntimeError (by decide +kernel) rfl) pa_nil)))) (pw_and1 (pt_not (pt_val (pe_callB (call_his hz hf) (by rfl) T.n_isinstance (by decide +kernel) (pa_cons (pv 4) (pa_cons (pe_glob (v := .ref _) (by rfl) Z.g_PairError rfl) pa_nil)))))))) (pe_lst (pa_cons pe_str pa_nil)) (pe_lst (pa_cons pe_str pa_nil)))))) (.named sc.nd (i := 4) rfl rfl (asks_one ⟨by rfl, by decide, .inl Z.g_PairError⟩) (fun a oe cls d pn hz hf => (pss_cons (ps_set (i := 5) sc.nd rfl (.inl rfl) (pe_or (pe_callB (call_his hz hf) (by rfl) T.n_isinstance (by decide +kernel) (pa_cons (pv 4) (pa_cons (pe_tup (pa_cons (pe_glob (v := .ref _) (by rfl) Z.g_InvalidCount rfl) (pa_cons (pe_glob (v := .ref _) (by rfl) Z.g_InvalidName rfl) (pa_cons (pe_glob (v := .ref _) (by rfl) Z.g_InvalidText rfl) (pa_cons (pe_glob (v := .ref _) (by rfl) Z.g_InvalidVector rfl) pa_nil))))) pa_nil))) (pe_one (pe_not (pe_callB (call_his hz hf) (by rfl) T.n_isinstance (by decide +kernel) (pa_cons (pv 4) (pa_cons (pe_bltn (v := .ty "ValueError") (by rfl) T.n_ValueError (by decide +kernel) rfl) pa_nil)))))))
      (pss_cons (ps_set (i := 3) sc.nd rfl (.inl rfl) (pe_lst (pa_cons pe_str pa_nil)))
      (pss_one (ps_if (PW.pt (pw_and (pt_val (pe_callB (call_his hz hf) (by rfl) T.n_isinstance (by decide +kernel) (pa_cons (pv 4) (pa_cons (pe_glob (v := .ref _) (by rfl) g_InvalidValue rfl) pa_nil)))) (pw_and1 (pt_not (pt_val (pv 5)))))) (pss_one (ps_set (i := 3) sc.nd rfl (.inl rfl) (pe_lst (pa_cons pe_str (pa_cons (pe_callB (call_reprH (by have z := room_units hr; exact z) gd) (by rfl) T.n_repr (by decide +kernel) (pa_cons (pe_hfld hz hf (pv 4)) pa_nil)) pa_nil))))) pss_nil))))) .nil)))
      (pss_one (ps_ret (pv 3)))), ?_⟩
    have give : ∀ {G : Hp} {l : List Str}, Same H G → l = out d e → ∀ q, G q = none → Q (.ref q) (upd G q (.lst (l.map V.str))) := fun s1 el q hq => k q _ (s1.trans (same_new hq)) (by rw [upd_same, el])
    refine ⟨_, rfl, b, rfl, ite2 (fun a => ?_) (fun a => ?_)⟩
    all_goals
      refine ⟨_, rfl, _, rfl, v, u, d, e, rfl, hd, he, nd, ne, fun k1 k2 k3 H1 s1 => ?_, fun k1 k2 k3 o H1 s1 xs => ?_, fun k1 o H1 s1 xs => ?_, fun k1 k2 o H1 s1 xs => ?_⟩
      · dsimp only [tNil]
        refine rep_thing (.int _) (nice_small (sgn_small d e)) ⟨(by show 2 ≤ sizeLine; decide), fun q hq => ⟨_, rfl, give (l := ["told", (PyData.int (sgn d e)).shown]) s1 ?_ q hq⟩⟩
        unfold out
        rw [if_neg k1, if_neg k2, if_neg (fun z => z k3)]
      · refine ⟨true, Z.uu, fun _ x hx => ?_, fun z => Bool.noConfusion z⟩
        refine ⟨_, rfl, CU, [], true, rfl, xs, Z.xu, .inl ⟨.ty "RuntimeError", .type "RuntimeError", rfl, .ty _, Z.ur⟩, _, rfl, _, rfl, CU, [], false, rfl, xs, Z.xu, .inl ⟨.ref CP, .ref CP, rfl, .own _, Z.up⟩, _, rfl, (by show 1 ≤ sizeLine; decide), fun q hq => ⟨_, rfl, give (l := ["unlike"]) s1 ?_ q hq⟩⟩
        unfold out
        rw [if_neg k1, if_neg k2, if_pos k3]
      · refine ⟨false, Z.iu, fun z => Bool.noConfusion z, fun _ => ⟨true, Z.ip, fun _ x hx => ?_, fun z => Bool.noConfusion z⟩⟩
        refine ⟨_, rfl, (by show 4 ≤ sizeLine; decide), fun p hp => ?_⟩
        have sp := s1.trans (same_new (o := .tup [.ref C1, .ref C2, .ref C3, .ref C4]) hp)
        have xp := xs.same (same_new (o := .tup [.ref C1, .ref C2, .ref C3, .ref C4]) hp)
        have at_ : upd H1 p (.tup [.ref C1, .ref C2, .ref C3, .ref C4]) p = some (.tup [.ref C1, .ref C2, .ref C3, .ref C4]) := upd_same
        generalize upd H1 p (.tup [.ref C1, .ref C2, .ref C3, .ref C4]) = H2 at sp xp at_ ⊢
        refine ⟨CI, _, false, rfl, xp, Z.xi, .inr ⟨p, _, _, rfl, at_, .cons (.own _) (.cons (.own _) (.cons (.own _) (.cons (.own _) .nil))), Z.io⟩, _, rfl, _, rfl, CI, _, true, rfl, xp, Z.xi, .inl ⟨.ty "ValueError", .type "ValueError", rfl, .ty _, Z.iv⟩, _, rfl, (by show 1 ≤ sizeLine; decide), fun l hl => ?_⟩
        have s3 := sp.trans (same_new (o := .lst [.str "strange"]) hl)
        have x3 := xp.same (same_new (o := .lst [.str "strange"]) hl)
        generalize upd H2 l (.lst [.str "strange"]) = H3 at s3 x3 ⊢
        refine ⟨_, rfl, CI, _, true, rfl, x3, Z.xi, .inl ⟨.ref CI, .ref CI, rfl, .own _, Z.ii⟩, _, rfl, _, rfl, _, rfl, _, rfl, CI, _, v, rfl, rfl, x3, Z.xi, Z.no, rfl, ?_⟩
        dsimp only [tNil]
        refine rep_thing (hd.same s3) nd.nice ⟨(by show 2 ≤ sizeLine; decide), fun q hq => ⟨_, rfl, give (l := ["invalid", d.shown]) s3 ?_ q hq⟩⟩
        unfold out
        rw [if_pos k1]
      · refine ⟨false, Z.iu, fun z => Bool.noConfusion z, fun _ => ⟨true, Z.ip, fun _ x hx => ?_, fun z => Bool.noConfusion z⟩⟩
        refine ⟨_, rfl, (by show 4 ≤ sizeLine; decide), fun p hp => ?_⟩
        have sp := s1.trans (same_new (o := .tup [.ref C1, .ref C2, .ref C3, .ref C4]) hp)
        have xp := xs.same (same_new (o := .tup [.ref C1, .ref C2, .ref C3, .ref C4]) hp)
        have at_ : upd H1 p (.tup [.ref C1, .ref C2, .ref C3, .ref C4]) p = some (.tup [.ref C1, .ref C2, .ref C3, .ref C4]) := upd_same
        generalize upd H1 p (.tup [.ref C1, .ref C2, .ref C3, .ref C4]) = H2 at sp xp at_ ⊢
        refine ⟨CI, _, false, rfl, xp, Z.xi, .inr ⟨p, _, _, rfl, at_, .cons (.own _) (.cons (.own _) (.cons (.own _) (.cons (.own _) .nil))), Z.io⟩, _, rfl, _, rfl, CI, _, true, rfl, xp, Z.xi, .inl ⟨.ty "ValueError", .type "ValueError", rfl, .ty _, Z.iv⟩, _, rfl, (by show 1 ≤ sizeLine; decide), fun l hl => ?_⟩
        have s3 := sp.trans (same_new (o := .lst [.str "strange"]) hl)
        have x3 := xp.same (same_new (o := .lst [.str "strange"]) hl)
        generalize upd H2 l (.lst [.str "strange"]) = H3 at s3 x3 ⊢
        refine ⟨_, rfl, CI, _, true, rfl, x3, Z.xi, .inl ⟨.ref CI, .ref CI, rfl, .own _, Z.ii⟩, _, rfl, _, rfl, _, rfl, _, rfl, CI, _, u, rfl, rfl, x3, Z.xi, Z.no, rfl, ?_⟩
        dsimp only [tNil]
        refine rep_thing (he.same s3) ne.nice ⟨(by show 2 ≤ sizeLine; decide), fun q hq => ⟨_, rfl, give (l := ["invalid", e.shown]) s3 ?_ q hq⟩⟩
        unfold out
        rw [if_neg k1, if_pos k2]
end
end K12

set_option Elab.async false
set_option linter.all false
set_option maxRecDepth 100000
set_option maxHeartbeats 8000000
namespace K12
open PySem PySem.Spec L2 PSG
open PyProof.Rows (IntsAre AllBare)
abbrev s__law_number : Stmt := topS 22
theorem sc__law_number : FnScope ["_law_rng_here", "_law_near", "_law_way"] ["_law_rng_here", "_law_near"] (defScope s__law_number) := ⟨rfl, rfl, rfl, by decide +kernel, rfl, by decide +kernel, by decide +kernel⟩
abbrev s__law_text : Stmt := topS 23
theorem sc__law_text : FnScope ["_law_rng_here", "_law_near", "_law_letters", "_law_way", "_law_at", "_law_k"] ["_law_rng_here", "_law_near"] (defScope s__law_text) := ⟨rfl, rfl, rfl, by decide +kernel, rfl, by decide +kernel, by decide +kernel⟩
abbrev s__law_odd : Stmt := topS 24
theorem sc__law_odd : FnScope ["_law_rng_here", "_law_some"] ["_law_rng_here"] (defScope s__law_odd) := ⟨rfl, rfl, rfl, by decide +kernel, rfl, by decide +kernel, by decide +kernel⟩
abbrev s__law_pair : Stmt := topS 25
theorem sc__law_pair : FnScope ["_law_rng_here", "_law_first", "_law_text_here", "_law_numbers", "_law_texts", "_law_way", "_law_made"] ["_law_rng_here"] (defScope s__law_pair) := ⟨rfl, rfl, rfl, by decide +kernel, rfl, by decide +kernel, by decide +kernel⟩

/-- a text of at most twelve letters -/
structure Txt12 (x : Str) : Prop where
  abc : ∀ c ∈ x.cps.toList, c ∈ abc.cps.toList
  few : x.length ≤ 12
section
variable {P : Program} {w : World} {K : PySem.W.Frag} {mg : Str → Option Value} {base : Heap}
def spNumber : Sp := fun vs H Q _ => ∃ (r : Addr) (near : Int), vs = [.ref r, .int near] ∧ Rg H r ∧ near.natAbs ≤ 10 ^ 7 ∧ ∀ i H', i.natAbs ≤ 10 ^ 31 → Rg H' r → But r H H' → Q (.int i) H'
theorem ok_number {f f1 : Addr} {fd d1 : FuncData} (F : Fun K "_law_number" "_law_number" s__law_number f fd) (T : Blt mg) (F__law_draw : Fun K "_law_draw" "_law_draw" s__law_draw f1 d1) (b__law_draw : Binds K d1 ["_law_rng_here", "_law_many"] []) (g__law_draw : mg "_law_draw" = some (.ref f1)) :
    FnOk P w K mg base CX0 2 f fd ["_law_rng_here", "_law_near"] spNumber := by
  have sc := sc__law_number
  have G__law_draw : FnOk P w K mg base CX0 1 f1 d1 _ spDraw := ok_draw F__law_draw T
  refine F.ok sc (fun vs H Q E h => ?_) (fun cdv A outer s H vs Q E hr h => ?_)
  · obtain ⟨r, near, rfl, _⟩ := h
    rfl
  · obtain ⟨r, near, rfl, hR, hn, q⟩ := h
    have ten7 : (10 : Nat) ^ 7 = 10000000 := by decide
    have ten31 : (10 : Nat) ^ 31 = 10000000000000000000000000000000 := by decide +kernel
    rw [ten7] at hn
    rw [ten31] at q
    refine ⟨_, (pss_cons (ps_set (i := 2) sc.nd rfl (.inl rfl) (pe_call G__law_draw (hr.mono (by decide)) (by rfl) g__law_draw F__law_draw.kp b__law_draw .nil pass0 (pa_cons (pv 0) (pa_cons pe_int pa_nil))))
      (pss_cons (ps_if (pt_cmpR op_lt (pv 2) pe_int (nomark _)) (pss_one (ps_ret (pe_op op_sub (pe_op op_add (pv 1) (pe_call G__law_draw (hr.mono (by decide)) (by rfl) g__law_draw F__law_draw.kp b__law_draw .nil pass0 (pa_cons (pv 0) (pa_cons pe_int pa_nil)))) pe_int))) pss_nil)
      (pss_cons (ps_if (pt_cmpR op_eq (pv 2) pe_int (nomark _)) (pss_one (ps_ret (pe_un un_neg (pv 1)))) pss_nil)
      (pss_one (ps_ret (pe_ix ix_list (pe_lst (pa_cons (pe_call G__law_draw (hr.mono (by decide)) (by rfl) g__law_draw F__law_draw.kp b__law_draw .nil pass0 (pa_cons (pv 0) (pa_cons (pe_op op_pow pe_int pe_int) pa_nil))) (pa_cons (pe_un un_neg (pe_call G__law_draw (hr.mono (by decide)) (by rfl) g__law_draw F__law_draw.kp b__law_draw .nil pass0 (pa_cons (pv 0) (pa_cons (pe_op op_pow pe_int pe_int) pa_nil)))) pa_nil))) (pe_op op_sub (pv 2) pe_int) (fun _ _ => rfl))))))), ?_⟩
    refine ⟨_, rfl, r, 5, rfl, hR, by decide, by decide, fun way H1 w0 w1 g1 b1 => ?_⟩
    refine ⟨_, rfl, _, _, rfl, rfl, _, rfl, ite2 (fun e => ?_) (fun e => ?_)⟩
    · refine ⟨_, rfl, _, rfl, r, 5, rfl, g1, by decide, by decide, fun d H2 d0 d1 g2 b2 => ⟨_, _, rfl, rfl, _, _, rfl, rfl, q _ _ (by omega) g2 (b1.trans b2)⟩⟩
    · have e : ¬ way < 2 := fun z => e (decide_eq_true z)
      refine ⟨_, rfl, rfl, _, rfl, ite2 (fun e2 => ?_) (fun e2 => ?_)⟩
      · exact ⟨_, rfl, _, rfl, q _ _ (by omega) g1 b1⟩
      · have e3 : way ≠ 2 := fun z => e2 (decide_eq_true (congrArg V.int z))
        have t30 : ((10 : Int) ^ (30 : Int).toNat) = 1000000000000000000000000000000 := by decide +kernel
        refine ⟨_, rfl, _, _, rfl, rfl, ⟨by decide, by decide, by decide⟩, r, _, rfl, g1, ?_, ?_, fun x H2 x0 x1 g2 b2 => ?_⟩
        · rw [t30]; decide
        · rw [t30]; decide +kernel
        refine ⟨_, rfl, _, _, rfl, rfl, ⟨by decide, by decide, by decide⟩, r, _, rfl, g2, ?_, ?_, fun y H3 y0 y1 g3 b3 => ?_⟩
        · rw [t30]; decide
        · rw [t30]; decide +kernel
        rw [t30] at x1 y1
        refine ⟨_, rfl, (by show 2 ≤ sizeLine; decide), fun p hp => ?_⟩
        have at_ : upd H3 p (.lst [.int x, .int (-y)]) p = some (.lst [.int x, .int (-y)]) := upd_same
        have g4 := g3.new (o := .lst [.int x, .int (-y)]) hp
        have b4 := ((b1.trans b2).trans b3).trans (But.of (r := r) (same_new (o := .lst [.int x, .int (-y)]) hp))
        refine ⟨_, rfl, _, _, rfl, rfl, ?_⟩
        by_cases e4 : way = 3
        · subst e4
          exact ⟨p, _, _, _, rfl, rfl, SqL.of at_, atI_nat (j := 0) rfl, q _ _ (by omega) g4 b4⟩
        · have e5 : way = 4 := by omega
          subst e5
          exact ⟨p, _, _, _, rfl, rfl, SqL.of at_, atI_nat (j := 1) rfl, q _ _ (by omega) g4 b4⟩
theorem cut_sub {x : Str} (lo hi : Option Int) {c : Nat} (h : c ∈ (cutS x lo hi).cps.toList) : c ∈ x.cps.toList := by
  unfold cutS at h
  exact List.mem_of_mem_drop (List.mem_of_mem_take (by simpa using h))
theorem cut_none (x : Str) (n : Nat) (h : n ≤ x.length) : (cutS x none (some (n : Int))).length = n := by
  show (((x.cps.toList.drop (HT.sIx x.length 0 none)).take (HT.sIx x.length x.length (some (n : Int)) - HT.sIx x.length 0 none)).toArray).size = n
  rw [List.size_toArray, List.length_take, List.length_drop, Array.length_toList, HT.sIx_none, HT.sIx_nat]
  have e : x.cps.size = x.length := rfl
  omega
theorem cut_from (x : Str) (n : Nat) (h : n ≤ x.length) : (cutS x (some (n : Int)) none).length = x.length - n := by
  show (((x.cps.toList.drop (HT.sIx x.length 0 (some (n : Int)))).take (HT.sIx x.length x.length none - HT.sIx x.length 0 (some (n : Int)))).toArray).size = x.length - n
  rw [List.size_toArray, List.length_take, List.length_drop, Array.length_toList, HT.sIx_none, HT.sIx_nat]
  have e : x.cps.size = x.length := rfl
  omega
theorem app_mem {x y : Str} {c : Nat} (h : c ∈ (x ++ y).cps.toList) : c ∈ x.cps.toList ∨ c ∈ y.cps.toList := by
  have e : (x ++ y).cps = x.cps ++ y.cps := rfl
  rw [e, Array.toList_append] at h
  exact List.mem_append.mp h
theorem app_len (x y : Str) : (x ++ y).length = x.length + y.length := by
  show (x.cps ++ y.cps).size = x.cps.size + y.cps.size
  exact Array.size_append
/-- letters one by one, put together -/
theorem join_ok : ∀ ys : List Str, (∀ y ∈ ys, (∀ c ∈ y.cps.toList, c ∈ abc.cps.toList) ∧ y.length = 1) → (∀ c ∈ (Str.join "" ys).cps.toList, c ∈ abc.cps.toList) ∧ (Str.join "" ys).length ≤ ys.length
  | [], _ => ⟨fun c h => by simp [Str.join] at h; exact absurd h (by simp [Str.empty]), Nat.zero_le _⟩
  | [y], h => ⟨(h y List.mem_cons_self).1, Nat.le_of_eq (h y List.mem_cons_self).2⟩
  | x :: y :: r, h => by
    have ih := join_ok (y :: r) fun z m => h z (List.mem_cons_of_mem _ m)
    have hx := h x List.mem_cons_self
    have e : Str.join "" (x :: y :: r) = x ++ "" ++ Str.join "" (y :: r) := rfl
    rw [e]
    refine ⟨fun c hc => ?_, ?_⟩
    · rcases app_mem hc with hc | hc
      · rcases app_mem hc with hc | hc
        · exact hx.1 c hc
        · cases hc
      · exact ih.1 c hc
    · rw [app_len, app_len, hx.2]
      have e0 : ("" : Str).length = 0 := rfl
      have l1 := ih.2
      simp only [List.length_cons] at l1 ⊢
      omega
theorem ones_sum : ∀ ys : List Str, (∀ y ∈ ys, (∀ c ∈ y.cps.toList, c ∈ abc.cps.toList) ∧ y.length = 1) → (ys.map (·.length)).sum = ys.length
  | [], _ => rfl
  | y :: r, h => by
    rw [List.map_cons, List.sum_cons, ones_sum r fun z m => h z (List.mem_cons_of_mem _ m), (h y List.mem_cons_self).2, List.length_cons]
    omega
def spText : Sp := fun vs H Q _ => ∃ (r : Addr) (near : Str), vs = [.ref r, .str near] ∧ Rg H r ∧ Txt12 near ∧ ∀ y H', Txt12 y → Rg H' r → But r H H' → Q (.str y) H'
theorem ok_text {f f1 : Addr} {fd d1 : FuncData} (F : Fun K "_law_text" "_law_text" s__law_text f fd) (T : Blt mg) (F__law_draw : Fun K "_law_draw" "_law_draw" s__law_draw f1 d1) (b__law_draw : Binds K d1 ["_law_rng_here", "_law_many"] []) (g__law_draw : mg "_law_draw" = some (.ref f1)) :
    FnOk P w K mg base CX0 2 f fd ["_law_rng_here", "_law_near"] spText := by
  have sc := sc__law_text
  have G__law_draw : FnOk P w K mg base CX0 1 f1 d1 _ spDraw := ok_draw F__law_draw T
  refine F.ok sc (fun vs H Q E h => ?_) (fun cdv A outer s H vs Q E hr h => ?_)
  · obtain ⟨r, near, rfl, _⟩ := h
    rfl
  · obtain ⟨r, near, rfl, hR, hn, q⟩ := h
    have few := hn.few
    refine ⟨_, (pss_cons (ps_set (i := 2) sc.nd rfl (.inr rfl) pe_str)
      (pss_cons (ps_asg (pe_tup (pa_cons (pe_call G__law_draw (hr.mono (by decide)) (by rfl) g__law_draw F__law_draw.kp b__law_draw .nil pass0 (pa_cons (pv 0) (pa_cons pe_int pa_nil))) (pa_cons (pe_call G__law_draw (hr.mono (by decide)) (by rfl) g__law_draw F__law_draw.kp b__law_draw .nil pass0 (pa_cons (pv 0) (pa_cons (pe_op op_add (pe_callB call_len_str (by rfl) T.n_len PySem.boot_len (pa_cons (pv 1) pa_nil)) pe_int) pa_nil))) pa_nil))) (pg_tup (by rfl) (pgs_cons (pg_name (i := 3) sc.nd rfl (.inr rfl)) (pgs_cons (pg_name (i := 4) sc.nd rfl (.inl rfl)) pgs_nil))))
      (pss_cons (ps_if (pt_cmpR op_eq (pv 3) pe_int (nomark _)) (pss_one (ps_ret (pv 1))) pss_nil)
      (pss_cons (ps_if (pt_cmpR op_eq (pv 3) pe_int (nomark _)) (pss_one (ps_ret (pe_slice sl_str (pv 1) po_none (po_some (pv 4))))) pss_nil)
      (pss_cons (ps_if (PW.pt (pw_and (pt_cmpR op_eq (pv 3) pe_int (nomark _)) (pw_and1 (pt_cmpR op_lt (pe_callB call_len_str (by rfl) T.n_len PySem.boot_len (pa_cons (pv 1) pa_nil)) pe_int (nomark _))))) (pss_one (ps_ret (pe_op op_add_str (pe_op op_add_str (pe_slice sl_str (pv 1) po_none (po_some (pv 4))) (pe_ix ix_str (pv 2) (pe_call G__law_draw (hr.mono (by decide)) (by rfl) g__law_draw F__law_draw.kp b__law_draw .nil pass0 (pa_cons (pv 0) (pa_cons pe_int pa_nil))) (fun _ _ => rfl))) (pe_slice sl_str (pv 1) (po_some (pv 4)) po_none)))) pss_nil)
      (pss_cons (ps_if (PW.pt (pw_and (pt_cmpR op_eq (pv 3) pe_int (nomark _)) (pw_and1 (pt_cmpR op_lt (pv 4) (pe_callB call_len_str (by rfl) T.n_len PySem.boot_len (pa_cons (pv 1) pa_nil)) (nomark _))))) (pss_one (ps_ret (pe_op op_add_str (pe_op op_add_str (pe_slice sl_str (pv 1) po_none (po_some (pv 4))) (pe_ix ix_str (pv 2) (pe_call G__law_draw (hr.mono (by decide)) (by rfl) g__law_draw F__law_draw.kp b__law_draw .nil pass0 (pa_cons (pv 0) (pa_cons pe_int pa_nil))) (fun _ _ => rfl))) (pe_slice sl_str (pv 1) (po_some (pe_op op_add (pv 4) pe_int)) po_none)))) pss_nil)
      (pss_one (ps_ret (pe_join pe_str (pe_lc (own := [("_law_k", 5)]) (g := gName 5) (tt := tYes) (by rfl) sc.nd (pi_range1 (by rfl) T.n_range (pa_cons (pe_call G__law_draw (hr.mono (by decide)) (by rfl) g__law_draw F__law_draw.kp b__law_draw .nil pass0 (pa_cons (pv 0) (pa_cons pe_int pa_nil))) pa_nil)) (blkOk_by (own := [("_law_k", 5)]) (N := ["_law_rng_here", "_law_near", "_law_letters", "_law_way", "_law_at", "_law_k"]) (sc := defScope s__law_text) (by decide +kernel)) (fun _ _ _ _ _ => pg_name (i := 5) sc.nd rfl (Or.inl rfl)) (fun _ _ _ _ _ => pts_nil) (fun _ _ _ _ _ => (pe_ix ix_str (pv 2) (pe_call G__law_draw (hr.mono (by decide)) (by rfl) g__law_draw F__law_draw.kp b__law_draw .nil pass0 (pa_cons (pv 0) (pa_cons (pe_ix (r := rIxL K) ix_list (pe_lst (pa_cons pe_int (pa_cons pe_int pa_nil))) (pe_op op_mod (pv 3) pe_int) (fun _ _ => rfl)) pa_nil))) (fun _ _ => rfl))))))))))))), ?_⟩
    refine ⟨_, rfl, r, 5, rfl, hR, by decide, by decide, fun way H1 w0 w1 g1 b1 => ?_⟩
    refine ⟨_, rfl, _, rfl, near, rfl, (by rw [sizeLine_eq]; omega), _, _, rfl, rfl, r, _, rfl, g1, (by omega), (by omega), fun at_ H2 a0 a1 g2 b2 => ?_⟩
    refine ⟨(by show 2 ≤ sizeLine; decide), fun p hp => ⟨p, _, rfl, .inl (.inl upd_same), rfl, _, _, rfl, _, _, rfl, rfl, ?_⟩⟩
    have g3 := g2.new (o := .tup [.int way, .int at_]) hp
    have b3 := (b1.trans b2).trans (But.of (r := r) (same_new (o := .tup [.int way, .int at_]) hp))
    generalize upd H2 p (.tup [.int way, .int at_]) = H3 at g3 b3 ⊢
    obtain ⟨n, rfl⟩ := Int.eq_ofNat_of_zero_le a0
    have ln : n ≤ near.length := by omega
    have lA : (abc : Str).length = 26 := by decide +kernel
    have lA2 : abc.cps.toList.length = 26 := by decide +kernel
    -- a letter drawn
    have letter : ∀ c : Int, 0 ≤ c → c < 26 → ∃ z, atI abc.cps.toList c = some z ∧ z ∈ abc.cps.toList := fun c c0 c1 => by
      obtain ⟨m, rfl⟩ := Int.eq_ofNat_of_zero_le c0
      have lt : m < abc.cps.toList.length := by omega
      exact ⟨_, atI_nat (List.getElem?_eq_getElem lt), List.getElem_mem lt⟩
    refine ⟨_, rfl, rfl, _, rfl, ite2 (fun e => ?_) (fun e => ?_)⟩
    · exact ⟨_, rfl, q _ _ hn g3 b3⟩
    refine ⟨_, rfl, rfl, _, rfl, ite2 (fun e => ?_) (fun e => ?_)⟩
    · refine ⟨_, rfl, _, rfl, _, rfl, near, rfl, (by rw [sizeLine_eq]; omega), q _ _ ⟨fun c hc => hn.abc c (cut_sub _ _ hc), Nat.le_trans (cutS_length _ _ _) few⟩ g3 b3⟩
    refine ⟨_, rfl, rfl, _, rfl, ite2 (fun e => ?_) (fun e => ?_)⟩
    · refine ⟨_, rfl, near, rfl, (by rw [sizeLine_eq]; omega), _, _, rfl, rfl, _, rfl, ite2 (fun e2 => ?_) (fun e2 => ?_)⟩
      · have e2 := of_decide_eq_true e2
        refine ⟨_, rfl, _, rfl, _, rfl, near, rfl, (by rw [sizeLine_eq]; omega), ?_⟩
        refine ⟨_, rfl, _, rfl, r, 26, rfl, g3, by decide, by decide, fun c H4 c0 c1 g4 b4 => ?_⟩
        obtain ⟨z, hz, mz⟩ := letter c c0 c1
        have l1 : (cutS near none (some (n : Int))).length = n := cut_none near n ln
        have l2 := (cut_from near n ln : (cutS near (some (n : Int)) none).length = near.length - n)
        have l3 : (⟨#[z]⟩ : Str).length = 1 := rfl
        refine ⟨abc, c, z, rfl, rfl, by rw [lA, sizeLine_eq]; omega, hz, _, _, rfl, rfl, by rw [l1, l3, sizeLine_eq]; omega, _, rfl, _, rfl, _, rfl, near, rfl, (by rw [sizeLine_eq]; omega), _, _, rfl, rfl, by rw [app_len, l1, l3, l2, sizeLine_eq]; omega, ?_⟩
        refine q _ _ ⟨fun c' hc' => ?_, by rw [app_len, app_len, l1, l3, l2]; omega⟩ g4 (b3.trans b4)
        rcases app_mem hc' with h | h
        · rcases app_mem h with h | h
          · exact hn.abc c' (cut_sub _ _ h)
          · have ec : c' = z := by simpa using h
            rw [ec]
            exact mz
        · exact hn.abc c' (cut_sub _ _ h)
      · skip
        refine ⟨_, rfl, rfl, _, rfl, ite2 (fun e => ?_) (fun e => ?_)⟩
        · refine ⟨_, rfl, _, rfl, near, rfl, (by rw [sizeLine_eq]; omega), _, _, rfl, rfl, _, rfl, ite2 (fun e2 => ?_) (fun e2 => ?_)⟩
          · have e2 : (n : Int) < near.length := of_decide_eq_true e2
            refine ⟨_, rfl, _, rfl, _, rfl, near, rfl, (by rw [sizeLine_eq]; omega), ?_⟩
            refine ⟨_, rfl, _, rfl, r, 26, rfl, g3, by decide, by decide, fun c H4 c0 c1 g4 b4 => ?_⟩
            obtain ⟨z, hz, mz⟩ := letter c c0 c1
            have l1 : (cutS near none (some (n : Int))).length = n := cut_none near n ln
            have l2 : (cutS near (some ((n : Int) + 1)) none).length = near.length - (n + 1) := cut_from near (n + 1) (by omega)
            have l3 : (⟨#[z]⟩ : Str).length = 1 := rfl
            refine ⟨abc, c, z, rfl, rfl, by rw [lA, sizeLine_eq]; omega, hz, _, _, rfl, rfl, by rw [l1, l3, sizeLine_eq]; omega, _, rfl, _, rfl, _, _, rfl, rfl, _, rfl, near, rfl, (by rw [sizeLine_eq]; omega), _, _, rfl, rfl, by rw [app_len, l1, l3, l2, sizeLine_eq]; omega, ?_⟩
            refine q _ _ ⟨fun c' hc' => ?_, by rw [app_len, app_len, l1, l3, l2]; omega⟩ g4 (b3.trans b4)
            rcases app_mem hc' with h | h
            · rcases app_mem h with h | h
              · exact hn.abc c' (cut_sub _ _ h)
              · have ec : c' = z := by simpa using h
                rw [ec]
                exact mz
            · exact hn.abc c' (cut_sub _ _ h)
          · skip
            refine ⟨⟨_, rfl⟩, _, rfl, r, 13, rfl, g3, by decide, by decide, fun m H4 m0 m1 g4 b4 => ⟨m, rfl, by omega, by omega, fun D hD => ?_⟩⟩
            have nDr : D ≠ r := fun z => by
              obtain ⟨o, e⟩ := g4.some
              rw [z, e] at hD
              cases hD
            refine lc_range (lo := 0) (n := m.toNat) (fun j G => Rg G r ∧ (∀ b o, b ≠ r → b ≠ D → upd H4 D (.lst []) b = some o → G b = some o) ∧ ∃ ys : List Str, G D = some (.lst (ys.map V.str)) ∧ ys.length = j ∧ ∀ y ∈ ys, (∀ c ∈ y.cps.toList, c ∈ abc.cps.toList) ∧ y.length = 1)
              ⟨g4.new hD, fun b o _ _ e => e, [], upd_same, rfl, fun y hy => nomatch hy⟩ ?_ ?_
            · rintro j G hj ⟨gR, keep, ys, aD, ly, oy⟩
              refine ⟨rfl, ?_⟩
              refine ⟨_, rfl, _, rfl, (by show 2 ≤ sizeLine; decide), fun p hp => ?_⟩
              have at2 : upd G p (.lst [.int 26, .int 2]) p = some (.lst [.int 26, .int 2]) := upd_same
              have gR2 := gR.new (o := .lst [.int 26, .int 2]) hp
              have sG : Same G (upd G p (.lst [.int 26, .int 2])) := same_new hp
              have npD : p ≠ D := fun z => by
                rw [z, aD] at hp
                cases hp
              generalize upd G p (.lst [.int 26, .int 2]) = G1 at at2 gR2 sG ⊢
              refine ⟨_, rfl, _, _, rfl, rfl, (by show (0 : Int) < _; decide), ?_⟩
              have fin : ∀ (c : Int) (H5 : Hp), 0 ≤ c → c < 26 → Rg H5 r → But r G1 H5 → ∃ z, atI abc.cps.toList c = some z ∧ ∃ acc, H5 D = some (.lst acc) ∧ acc.length < sizeLine ∧ (Rg (upd H5 D (.lst (acc ++ [.str ⟨#[z]⟩]))) r ∧ (∀ b o, b ≠ r → b ≠ D → upd H4 D (.lst []) b = some o → upd H5 D (.lst (acc ++ [.str ⟨#[z]⟩])) b = some o) ∧
                  ∃ ys : List Str, upd H5 D (.lst (acc ++ [.str ⟨#[z]⟩])) D = some (.lst (ys.map V.str)) ∧ ys.length = j + 1 ∧ ∀ y ∈ ys, (∀ c ∈ y.cps.toList, c ∈ abc.cps.toList) ∧ y.length = 1) := fun c H5 c0 c1 g5 b5 => by
                obtain ⟨z, hz, mz⟩ := letter c c0 c1
                have aD5 := b5 _ _ nDr (sG _ _ aD)
                refine ⟨z, hz, _, aD5, by rw [List.length_map, sizeLine_eq]; omega, ?_, fun b o n1 n2 e => (upd_ne n2).trans (b5 _ _ n1 (sG _ _ (keep _ _ n1 n2 e))), ys ++ [⟨#[z]⟩], ?_, by rw [List.length_append, ly]; rfl, fun y hy => ?_⟩
                · obtain ⟨x', y', e, z'⟩ := g5
                  exact ⟨x', y', (upd_ne (Ne.symm nDr)).trans e, z'⟩
                · rw [upd_same, List.map_append]
                  rfl
                · rcases List.mem_append.mp hy with hy | hy
                  · exact oy y hy
                  · have ey : y = ⟨#[z]⟩ := by simpa using hy
                    rw [ey]
                    exact ⟨fun c' hc' => by
                      have ec : c' = z := by simpa using hc'
                      rw [ec]
                      exact mz, rfl⟩
              by_cases ev : way % 2 = 0
              · refine ⟨p, _, _, .int 26, rfl, rfl, SqL.of at2, (by show atI _ (way % 2) = _; rw [ev]; exact atI_nat (j := 0) rfl), r, 26, rfl, gR2, by decide, by decide, fun c H5 c0 c1 g5 b5 => ?_⟩
                obtain ⟨z, hz, k⟩ := fin c H5 c0 c1 g5 b5
                exact ⟨abc, c, z, rfl, rfl, by rw [lA, sizeLine_eq]; omega, hz, k⟩
              · have od : way % 2 = 1 := by omega
                refine ⟨p, _, _, .int 2, rfl, rfl, SqL.of at2, (by show atI _ (way % 2) = _; rw [od]; exact atI_nat (j := 1) rfl), r, 2, rfl, gR2, by decide, by decide, fun c H5 c0 c1 g5 b5 => ?_⟩
                obtain ⟨z, hz, k⟩ := fin c H5 c0 (by omega) g5 b5
                exact ⟨abc, c, z, rfl, rfl, by rw [lA, sizeLine_eq]; omega, hz, k⟩
            · rintro G ⟨gR, keep, ys, aD, ly, oy⟩
              have jo := join_ok ys oy
              have few2 : ys.length ≤ 12 := by omega
              refine ⟨"", D, ys, rfl, rfl, .inl (SqL.of aD), ?_, ?_⟩
              · have e1 := ones_sum ys oy
                have e0 : ("" : Str).length = 0 := rfl
                rw [e1, e0]
                omega
              · rw [TL.join_eq]
                refine q _ _ ⟨jo.1, Nat.le_trans jo.2 few2⟩ gR fun b o n e => ?_
                have e2 := b4 _ _ n (b3 _ _ n e)
                exact keep b o n (ne_of_none e2 hD) ((upd_ne (ne_of_none e2 hD)).trans e2)
        · skip
          refine ⟨⟨_, rfl⟩, _, rfl, r, 13, rfl, g3, by decide, by decide, fun m H4 m0 m1 g4 b4 => ⟨m, rfl, by omega, by omega, fun D hD => ?_⟩⟩
          have nDr : D ≠ r := fun z => by
            obtain ⟨o, e⟩ := g4.some
            rw [z, e] at hD
            cases hD
          refine lc_range (lo := 0) (n := m.toNat) (fun j G => Rg G r ∧ (∀ b o, b ≠ r → b ≠ D → upd H4 D (.lst []) b = some o → G b = some o) ∧ ∃ ys : List Str, G D = some (.lst (ys.map V.str)) ∧ ys.length = j ∧ ∀ y ∈ ys, (∀ c ∈ y.cps.toList, c ∈ abc.cps.toList) ∧ y.length = 1)
            ⟨g4.new hD, fun b o _ _ e => e, [], upd_same, rfl, fun y hy => nomatch hy⟩ ?_ ?_
          · rintro j G hj ⟨gR, keep, ys, aD, ly, oy⟩
            refine ⟨rfl, ?_⟩
            refine ⟨_, rfl, _, rfl, (by show 2 ≤ sizeLine; decide), fun p hp => ?_⟩
            have at2 : upd G p (.lst [.int 26, .int 2]) p = some (.lst [.int 26, .int 2]) := upd_same
            have gR2 := gR.new (o := .lst [.int 26, .int 2]) hp
            have sG : Same G (upd G p (.lst [.int 26, .int 2])) := same_new hp
            have npD : p ≠ D := fun z => by
              rw [z, aD] at hp
              cases hp
            generalize upd G p (.lst [.int 26, .int 2]) = G1 at at2 gR2 sG ⊢
            refine ⟨_, rfl, _, _, rfl, rfl, (by show (0 : Int) < _; decide), ?_⟩
            have fin : ∀ (c : Int) (H5 : Hp), 0 ≤ c → c < 26 → Rg H5 r → But r G1 H5 → ∃ z, atI abc.cps.toList c = some z ∧ ∃ acc, H5 D = some (.lst acc) ∧ acc.length < sizeLine ∧ (Rg (upd H5 D (.lst (acc ++ [.str ⟨#[z]⟩]))) r ∧ (∀ b o, b ≠ r → b ≠ D → upd H4 D (.lst []) b = some o → upd H5 D (.lst (acc ++ [.str ⟨#[z]⟩])) b = some o) ∧
                ∃ ys : List Str, upd H5 D (.lst (acc ++ [.str ⟨#[z]⟩])) D = some (.lst (ys.map V.str)) ∧ ys.length = j + 1 ∧ ∀ y ∈ ys, (∀ c ∈ y.cps.toList, c ∈ abc.cps.toList) ∧ y.length = 1) := fun c H5 c0 c1 g5 b5 => by
              obtain ⟨z, hz, mz⟩ := letter c c0 c1
              have aD5 := b5 _ _ nDr (sG _ _ aD)
              refine ⟨z, hz, _, aD5, by rw [List.length_map, sizeLine_eq]; omega, ?_, fun b o n1 n2 e => (upd_ne n2).trans (b5 _ _ n1 (sG _ _ (keep _ _ n1 n2 e))), ys ++ [⟨#[z]⟩], ?_, by rw [List.length_append, ly]; rfl, fun y hy => ?_⟩
              · obtain ⟨x', y', e, z'⟩ := g5
                exact ⟨x', y', (upd_ne (Ne.symm nDr)).trans e, z'⟩
              · rw [upd_same, List.map_append]
                rfl
              · rcases List.mem_append.mp hy with hy | hy
                · exact oy y hy
                · have ey : y = ⟨#[z]⟩ := by simpa using hy
                  rw [ey]
                  exact ⟨fun c' hc' => by
                    have ec : c' = z := by simpa using hc'
                    rw [ec]
                    exact mz, rfl⟩
            by_cases ev : way % 2 = 0
            · refine ⟨p, _, _, .int 26, rfl, rfl, SqL.of at2, (by show atI _ (way % 2) = _; rw [ev]; exact atI_nat (j := 0) rfl), r, 26, rfl, gR2, by decide, by decide, fun c H5 c0 c1 g5 b5 => ?_⟩
              obtain ⟨z, hz, k⟩ := fin c H5 c0 c1 g5 b5
              exact ⟨abc, c, z, rfl, rfl, by rw [lA, sizeLine_eq]; omega, hz, k⟩
            · have od : way % 2 = 1 := by omega
              refine ⟨p, _, _, .int 2, rfl, rfl, SqL.of at2, (by show atI _ (way % 2) = _; rw [od]; exact atI_nat (j := 1) rfl), r, 2, rfl, gR2, by decide, by decide, fun c H5 c0 c1 g5 b5 => ?_⟩
              obtain ⟨z, hz, k⟩ := fin c H5 c0 (by omega) g5 b5
              exact ⟨abc, c, z, rfl, rfl, by rw [lA, sizeLine_eq]; omega, hz, k⟩
          · rintro G ⟨gR, keep, ys, aD, ly, oy⟩
            have jo := join_ok ys oy
            have few2 : ys.length ≤ 12 := by omega
            refine ⟨"", D, ys, rfl, rfl, .inl (SqL.of aD), ?_, ?_⟩
            · have e1 := ones_sum ys oy
              have e0 : ("" : Str).length = 0 := rfl
              rw [e1, e0]
              omega
            · rw [TL.join_eq]
              refine q _ _ ⟨jo.1, Nat.le_trans jo.2 few2⟩ gR fun b o n e => ?_
              have e2 := b4 _ _ n (b3 _ _ n e)
              exact keep b o n (ne_of_none e2 hD) ((upd_ne (ne_of_none e2 hD)).trans e2)
    · skip
      refine ⟨_, rfl, rfl, _, rfl, ite2 (fun e => ?_) (fun e => ?_)⟩
      · refine ⟨_, rfl, _, rfl, near, rfl, (by rw [sizeLine_eq]; omega), _, _, rfl, rfl, _, rfl, ite2 (fun e2 => ?_) (fun e2 => ?_)⟩
        · have e2 : (n : Int) < near.length := of_decide_eq_true e2
          refine ⟨_, rfl, _, rfl, _, rfl, near, rfl, (by rw [sizeLine_eq]; omega), ?_⟩
          refine ⟨_, rfl, _, rfl, r, 26, rfl, g3, by decide, by decide, fun c H4 c0 c1 g4 b4 => ?_⟩
          obtain ⟨z, hz, mz⟩ := letter c c0 c1
          have l1 : (cutS near none (some (n : Int))).length = n := cut_none near n ln
          have l2 : (cutS near (some ((n : Int) + 1)) none).length = near.length - (n + 1) := cut_from near (n + 1) (by omega)
          have l3 : (⟨#[z]⟩ : Str).length = 1 := rfl
          refine ⟨abc, c, z, rfl, rfl, by rw [lA, sizeLine_eq]; omega, hz, _, _, rfl, rfl, by rw [l1, l3, sizeLine_eq]; omega, _, rfl, _, rfl, _, _, rfl, rfl, _, rfl, near, rfl, (by rw [sizeLine_eq]; omega), _, _, rfl, rfl, by rw [app_len, l1, l3, l2, sizeLine_eq]; omega, ?_⟩
          refine q _ _ ⟨fun c' hc' => ?_, by rw [app_len, app_len, l1, l3, l2]; omega⟩ g4 (b3.trans b4)
          rcases app_mem hc' with h | h
          · rcases app_mem h with h | h
            · exact hn.abc c' (cut_sub _ _ h)
            · have ec : c' = z := by simpa using h
              rw [ec]
              exact mz
          · exact hn.abc c' (cut_sub _ _ h)
        · skip
          refine ⟨⟨_, rfl⟩, _, rfl, r, 13, rfl, g3, by decide, by decide, fun m H4 m0 m1 g4 b4 => ⟨m, rfl, by omega, by omega, fun D hD => ?_⟩⟩
          have nDr : D ≠ r := fun z => by
            obtain ⟨o, e⟩ := g4.some
            rw [z, e] at hD
            cases hD
          refine lc_range (lo := 0) (n := m.toNat) (fun j G => Rg G r ∧ (∀ b o, b ≠ r → b ≠ D → upd H4 D (.lst []) b = some o → G b = some o) ∧ ∃ ys : List Str, G D = some (.lst (ys.map V.str)) ∧ ys.length = j ∧ ∀ y ∈ ys, (∀ c ∈ y.cps.toList, c ∈ abc.cps.toList) ∧ y.length = 1)
            ⟨g4.new hD, fun b o _ _ e => e, [], upd_same, rfl, fun y hy => nomatch hy⟩ ?_ ?_
          · rintro j G hj ⟨gR, keep, ys, aD, ly, oy⟩
            refine ⟨rfl, ?_⟩
            refine ⟨_, rfl, _, rfl, (by show 2 ≤ sizeLine; decide), fun p hp => ?_⟩
            have at2 : upd G p (.lst [.int 26, .int 2]) p = some (.lst [.int 26, .int 2]) := upd_same
            have gR2 := gR.new (o := .lst [.int 26, .int 2]) hp
            have sG : Same G (upd G p (.lst [.int 26, .int 2])) := same_new hp
            have npD : p ≠ D := fun z => by
              rw [z, aD] at hp
              cases hp
            generalize upd G p (.lst [.int 26, .int 2]) = G1 at at2 gR2 sG ⊢
            refine ⟨_, rfl, _, _, rfl, rfl, (by show (0 : Int) < _; decide), ?_⟩
            have fin : ∀ (c : Int) (H5 : Hp), 0 ≤ c → c < 26 → Rg H5 r → But r G1 H5 → ∃ z, atI abc.cps.toList c = some z ∧ ∃ acc, H5 D = some (.lst acc) ∧ acc.length < sizeLine ∧ (Rg (upd H5 D (.lst (acc ++ [.str ⟨#[z]⟩]))) r ∧ (∀ b o, b ≠ r → b ≠ D → upd H4 D (.lst []) b = some o → upd H5 D (.lst (acc ++ [.str ⟨#[z]⟩])) b = some o) ∧
                ∃ ys : List Str, upd H5 D (.lst (acc ++ [.str ⟨#[z]⟩])) D = some (.lst (ys.map V.str)) ∧ ys.length = j + 1 ∧ ∀ y ∈ ys, (∀ c ∈ y.cps.toList, c ∈ abc.cps.toList) ∧ y.length = 1) := fun c H5 c0 c1 g5 b5 => by
              obtain ⟨z, hz, mz⟩ := letter c c0 c1
              have aD5 := b5 _ _ nDr (sG _ _ aD)
              refine ⟨z, hz, _, aD5, by rw [List.length_map, sizeLine_eq]; omega, ?_, fun b o n1 n2 e => (upd_ne n2).trans (b5 _ _ n1 (sG _ _ (keep _ _ n1 n2 e))), ys ++ [⟨#[z]⟩], ?_, by rw [List.length_append, ly]; rfl, fun y hy => ?_⟩
              · obtain ⟨x', y', e, z'⟩ := g5
                exact ⟨x', y', (upd_ne (Ne.symm nDr)).trans e, z'⟩
              · rw [upd_same, List.map_append]
                rfl
              · rcases List.mem_append.mp hy with hy | hy
                · exact oy y hy
                · have ey : y = ⟨#[z]⟩ := by simpa using hy
                  rw [ey]
                  exact ⟨fun c' hc' => by
                    have ec : c' = z := by simpa using hc'
                    rw [ec]
                    exact mz, rfl⟩
            by_cases ev : way % 2 = 0
            · refine ⟨p, _, _, .int 26, rfl, rfl, SqL.of at2, (by show atI _ (way % 2) = _; rw [ev]; exact atI_nat (j := 0) rfl), r, 26, rfl, gR2, by decide, by decide, fun c H5 c0 c1 g5 b5 => ?_⟩
              obtain ⟨z, hz, k⟩ := fin c H5 c0 c1 g5 b5
              exact ⟨abc, c, z, rfl, rfl, by rw [lA, sizeLine_eq]; omega, hz, k⟩
            · have od : way % 2 = 1 := by omega
              refine ⟨p, _, _, .int 2, rfl, rfl, SqL.of at2, (by show atI _ (way % 2) = _; rw [od]; exact atI_nat (j := 1) rfl), r, 2, rfl, gR2, by decide, by decide, fun c H5 c0 c1 g5 b5 => ?_⟩
              obtain ⟨z, hz, k⟩ := fin c H5 c0 (by omega) g5 b5
              exact ⟨abc, c, z, rfl, rfl, by rw [lA, sizeLine_eq]; omega, hz, k⟩
          · rintro G ⟨gR, keep, ys, aD, ly, oy⟩
            have jo := join_ok ys oy
            have few2 : ys.length ≤ 12 := by omega
            refine ⟨"", D, ys, rfl, rfl, .inl (SqL.of aD), ?_, ?_⟩
            · have e1 := ones_sum ys oy
              have e0 : ("" : Str).length = 0 := rfl
              rw [e1, e0]
              omega
            · rw [TL.join_eq]
              refine q _ _ ⟨jo.1, Nat.le_trans jo.2 few2⟩ gR fun b o n e => ?_
              have e2 := b4 _ _ n (b3 _ _ n e)
              exact keep b o n (ne_of_none e2 hD) ((upd_ne (ne_of_none e2 hD)).trans e2)
      · skip
        refine ⟨⟨_, rfl⟩, _, rfl, r, 13, rfl, g3, by decide, by decide, fun m H4 m0 m1 g4 b4 => ⟨m, rfl, by omega, by omega, fun D hD => ?_⟩⟩
        have nDr : D ≠ r := fun z => by
          obtain ⟨o, e⟩ := g4.some
          rw [z, e] at hD
          cases hD
        refine lc_range (lo := 0) (n := m.toNat) (fun j G => Rg G r ∧ (∀ b o, b ≠ r → b ≠ D → upd H4 D (.lst []) b = some o → G b = some o) ∧ ∃ ys : List Str, G D = some (.lst (ys.map V.str)) ∧ ys.length = j ∧ ∀ y ∈ ys, (∀ c ∈ y.cps.toList, c ∈ abc.cps.toList) ∧ y.length = 1)
          ⟨g4.new hD, fun b o _ _ e => e, [], upd_same, rfl, fun y hy => nomatch hy⟩ ?_ ?_
        · rintro j G hj ⟨gR, keep, ys, aD, ly, oy⟩
          refine ⟨rfl, ?_⟩
          refine ⟨_, rfl, _, rfl, (by show 2 ≤ sizeLine; decide), fun p hp => ?_⟩
          have at2 : upd G p (.lst [.int 26, .int 2]) p = some (.lst [.int 26, .int 2]) := upd_same
          have gR2 := gR.new (o := .lst [.int 26, .int 2]) hp
          have sG : Same G (upd G p (.lst [.int 26, .int 2])) := same_new hp
          have npD : p ≠ D := fun z => by
            rw [z, aD] at hp
            cases hp
          generalize upd G p (.lst [.int 26, .int 2]) = G1 at at2 gR2 sG ⊢
          refine ⟨_, rfl, _, _, rfl, rfl, (by show (0 : Int) < _; decide), ?_⟩
          have fin : ∀ (c : Int) (H5 : Hp), 0 ≤ c → c < 26 → Rg H5 r → But r G1 H5 → ∃ z, atI abc.cps.toList c = some z ∧ ∃ acc, H5 D = some (.lst acc) ∧ acc.length < sizeLine ∧ (Rg (upd H5 D (.lst (acc ++ [.str ⟨#[z]⟩]))) r ∧ (∀ b o, b ≠ r → b ≠ D → upd H4 D (.lst []) b = some o → upd H5 D (.lst (acc ++ [.str ⟨#[z]⟩])) b = some o) ∧
              ∃ ys : List Str, upd H5 D (.lst (acc ++ [.str ⟨#[z]⟩])) D = some (.lst (ys.map V.str)) ∧ ys.length = j + 1 ∧ ∀ y ∈ ys, (∀ c ∈ y.cps.toList, c ∈ abc.cps.toList) ∧ y.length = 1) := fun c H5 c0 c1 g5 b5 => by
            obtain ⟨z, hz, mz⟩ := letter c c0 c1
            have aD5 := b5 _ _ nDr (sG _ _ aD)
            refine ⟨z, hz, _, aD5, by rw [List.length_map, sizeLine_eq]; omega, ?_, fun b o n1 n2 e => (upd_ne n2).trans (b5 _ _ n1 (sG _ _ (keep _ _ n1 n2 e))), ys ++ [⟨#[z]⟩], ?_, by rw [List.length_append, ly]; rfl, fun y hy => ?_⟩
            · obtain ⟨x', y', e, z'⟩ := g5
              exact ⟨x', y', (upd_ne (Ne.symm nDr)).trans e, z'⟩
            · rw [upd_same, List.map_append]
              rfl
            · rcases List.mem_append.mp hy with hy | hy
              · exact oy y hy
              · have ey : y = ⟨#[z]⟩ := by simpa using hy
                rw [ey]
                exact ⟨fun c' hc' => by
                  have ec : c' = z := by simpa using hc'
                  rw [ec]
                  exact mz, rfl⟩
          by_cases ev : way % 2 = 0
          · refine ⟨p, _, _, .int 26, rfl, rfl, SqL.of at2, (by show atI _ (way % 2) = _; rw [ev]; exact atI_nat (j := 0) rfl), r, 26, rfl, gR2, by decide, by decide, fun c H5 c0 c1 g5 b5 => ?_⟩
            obtain ⟨z, hz, k⟩ := fin c H5 c0 c1 g5 b5
            exact ⟨abc, c, z, rfl, rfl, by rw [lA, sizeLine_eq]; omega, hz, k⟩
          · have od : way % 2 = 1 := by omega
            refine ⟨p, _, _, .int 2, rfl, rfl, SqL.of at2, (by show atI _ (way % 2) = _; rw [od]; exact atI_nat (j := 1) rfl), r, 2, rfl, gR2, by decide, by decide, fun c H5 c0 c1 g5 b5 => ?_⟩
            obtain ⟨z, hz, k⟩ := fin c H5 c0 (by omega) g5 b5
            exact ⟨abc, c, z, rfl, rfl, by rw [lA, sizeLine_eq]; omega, hz, k⟩
        · rintro G ⟨gR, keep, ys, aD, ly, oy⟩
          have jo := join_ok ys oy
          have few2 : ys.length ≤ 12 := by omega
          refine ⟨"", D, ys, rfl, rfl, .inl (SqL.of aD), ?_, ?_⟩
          · have e1 := ones_sum ys oy
            have e0 : ("" : Str).length = 0 := rfl
            rw [e1, e0]
            omega
          · rw [TL.join_eq]
            refine q _ _ ⟨jo.1, Nat.le_trans jo.2 few2⟩ gR fun b o n e => ?_
            have e2 := b4 _ _ n (b3 _ _ n e)
            exact keep b o n (ne_of_none e2 hD) ((upd_ne (ne_of_none e2 hD)).trans e2)
end
end K12

set_option Elab.async false
set_option linter.all false
set_option maxRecDepth 100000
set_option maxHeartbeats 8000000
namespace K12
open PySem PySem.Spec L2 PSG
open PyProof.Rows (IntsAre AllBare)

theorem fine_dec {d : PyData} (h : (d.showable && decide (d.shown.length ≤ 1000) && decide (d.depth ≤ 6) && PyData.strOk d.shown) = true) : Fine d := by
  simp only [Bool.and_eq_true, decide_eq_true_eq] at h
  exact ⟨h.1.1.1, h.1.1.2, h.1.2, h.2⟩
theorem thing_no {d : PyData} (h : (d.showable && decide (d.shown.length ≤ 1000) && decide (d.depth ≤ 6) && PyData.strOk d.shown) = true) (n : isS d = false) : Thing d := ⟨fine_dec h, fun x e => by
  rw [e] at n
  cases n⟩
theorem thing_str {x : Str} (h : ((PyData.str x).showable && decide ((PyData.str x).shown.length ≤ 1000) && decide ((PyData.str x).depth ≤ 6) && PyData.strOk (PyData.str x).shown) = true) (n : x.length ≤ 100) : Thing (.str x) := ⟨fine_dec h, fun y e => by
  cases e
  exact n⟩
theorem thing_int {i : Int} (h : i.natAbs ≤ 10 ^ 31) : Thing (.int i) := ⟨nice_small h, fun x e => nomatch e⟩
theorem abc_small : ∀ c ∈ abc.cps.toList, c < 16 ^ 8 := by
  have h : (abc.cps.toList.all fun c => decide (c < 16 ^ 8)) = true := by decide +kernel
  intro c hc
  exact of_decide_eq_true (List.all_eq_true.mp h c hc)
theorem abc_shown : ∀ c ∈ abc.cps.toList, ∀ q, q = 34 ∨ q = 39 → ∀ z ∈ Builtin.Str.reprChar q c, z < 0x110000 := by
  have h : (abc.cps.toList.all fun c => [34, 39].all fun q => (Builtin.Str.reprChar q c).all fun z => decide (z < 0x110000)) = true := by decide +kernel
  intro c hc q hq z hz
  have h2 := List.all_eq_true.mp (List.all_eq_true.mp h c hc) q (by rcases hq with rfl | rfl <;> simp)
  exact of_decide_eq_true (List.all_eq_true.mp h2 z hz)
theorem fold_shown (q : Nat) (hq : q = 34 ∨ q = 39) : ∀ (l : List Nat) (acc : Array Nat), (∀ c ∈ l, c ∈ abc.cps.toList) → (∀ z ∈ acc, z < 0x110000) → ∀ z ∈ l.foldl (fun o c => o ++ (Builtin.Str.reprChar q c).toArray) acc, z < 0x110000
  | [], _, _, ha => ha
  | c :: l, acc, hl, ha => fold_shown q hq l _ (fun d hd => hl d (List.mem_cons_of_mem _ hd)) fun z hz => by
    rcases Array.mem_append.mp hz with hz | hz
    · exact ha z hz
    · exact abc_shown c (hl c List.mem_cons_self) q hq z (by simpa using hz)
theorem txt_shown {x : Str} (h : Txt12 x) : PyData.strOk (PyData.str x).shown = true := by
  have hq : reprQuote x = 34 ∨ reprQuote x = 39 := by
    unfold reprQuote
    split
    · exact .inl rfl
    · exact .inr rfl
  have hq2 : reprQuote x < 0x110000 := by omega
  show PyData.strOk (reprText x) = true
  unfold PyData.strOk reprText
  rw [Array.all_eq_true_iff_forall_mem]
  intro z hz
  refine decide_eq_true ?_
  rcases Array.mem_push.mp hz with hz | hz
  · rw [← Array.foldl_toList] at hz
    have first : ∀ y ∈ (#[reprQuote x] : Array Nat), y < 0x110000 := fun y hy => by
      have e : y = reprQuote x := by simpa using hy
      omega
    exact fold_shown _ hq x.cps.toList _ h.abc first z hz
  · omega
theorem thing_txt {x : Str} (h : Txt12 x) : Thing (.str x) := by
  have f := h.few
  refine ⟨⟨rfl, ?_, by simp [PyData.depth], txt_shown h⟩, fun y e => by cases e; omega⟩
  have l := PySem.StrLaws.reprText_len x fun c hc => abc_small c (h.abc c hc)
  show (reprText x).length ≤ 1000
  omega
theorem txt_none : Txt12 "" := ⟨fun c hc => (by cases hc), Nat.zero_le _⟩
theorem dt_to {B H H' : Hp} {r : Addr} {v : V} {d : PyData} (h : Dt true (news B H) v d) (b : But r H H') (there : ∃ o, B r = some o) : Dt true H' v d := (h.same (news_but b there)).same news_sub
section
variable {P : Program} {w : World} {K : PySem.W.Frag} {mg : Str → Option Value} {base : Heap}
/-- one of the menu: data, all of it new -/
def spOdd : Sp := fun vs H Q _ => ∃ r : Addr, vs = [.ref r] ∧ Rg H r ∧ ∀ v d H', Rg H' r → But r H H' → Dt true (news H H') v d → Thing d → Q v H'
theorem ok_odd {f fD fC : Addr} {fd fdD fdC : FuncData} (F : Fun K "_law_odd" "_law_odd" s__law_odd f fd) (T : Blt mg) (FD : Fun K "_law_draw" "_law_draw" s__law_draw fD fdD) (bD : Binds K fdD ["_law_rng_here", "_law_many"] [])
    (gD : mg "_law_draw" = some (.ref fD)) (F__law_choice : Fun K "_law_choice" "_law_choice" s__law_choice fC fdC) (b__law_choice : Binds K fdC ["_law_rng_here", "_law_options"] []) (g__law_choice : mg "_law_choice" = some (.ref fC)) :
    FnOk P w K mg base CX0 3 f fd ["_law_rng_here"] spOdd := by
  have sc := sc__law_odd
  have G__law_choice : FnOk P w K mg base CX0 2 fC fdC ["_law_rng_here", "_law_options"] (spChoice K) := ok_choice F__law_choice T FD bD gD
  refine F.ok sc (fun vs H Q E h => ?_) (fun cdv A outer s H vs Q E hr h => ?_)
  · obtain ⟨r, rfl, _⟩ := h
    rfl
  · obtain ⟨r, rfl, hR, q⟩ := h
    refine ⟨_, (pss_cons (ps_set (i := 1) sc.nd rfl (.inl rfl) (pe_lstF (pa_cons pe_non (pa_cons pe_bl (pa_cons pe_bl (pa_cons pe_str (pa_cons pe_str (pa_cons pe_str (pa_cons pe_str (pa_cons pe_str (pa_cons (pe_lstF pa_nil) (pa_cons (pe_lstF (pa_cons pe_str pa_nil)) (pa_cons (pe_tup pa_nil) (pa_cons (pe_tup (pa_cons pe_int pa_nil)) (pa_cons pe_dnewK (pa_cons (pe_disp (pps_cons pe_str pe_int pps_nil) (by rfl) (by rfl) (fun z => by cases z) (by decide)) (pa_cons pe_str pa_nil)))))))))))))))))
      (pss_one (ps_ret (pe_call G__law_choice (hr.mono (by decide)) (by rfl) g__law_choice F__law_choice.kp b__law_choice .nil pass0 (pa_cons (pv 0) (pa_cons (pv 1) pa_nil)))))), ?_⟩
    refine ⟨Nat.zero_le _, fun p1 h1 f1 => ?_⟩
    have a1 : upd H p1 (.lst []) p1 = some (.lst []) := upd_same
    have s1 : Same H (upd H p1 (.lst [])) := same_new h1
    generalize upd H p1 (.lst []) = H1 at a1 s1 ⊢
    refine ⟨(by show 1 ≤ sizeLine; decide), fun p2 h2 f2 => ?_⟩
    have a2 : upd H1 p2 (.lst [.str "a"]) p2 = some (.lst [.str "a"]) := upd_same
    have s2 : Same H1 (upd H1 p2 (.lst [.str "a"])) := same_new h2
    generalize upd H1 p2 (.lst [.str "a"]) = H2 at a2 s2 ⊢
    refine ⟨Nat.zero_le _, fun p3 h3 => ?_⟩
    have a3 : upd H2 p3 (.tup []) p3 = some (.tup []) := upd_same
    have s3 : Same H2 (upd H2 p3 (.tup [])) := same_new h3
    generalize upd H2 p3 (.tup []) = H3 at a3 s3 ⊢
    refine ⟨(by show 1 ≤ sizeLine; decide), fun p4 h4 => ?_⟩
    have a4 : upd H3 p4 (.tup [.int 1]) p4 = some (.tup [.int 1]) := upd_same
    have s4 : Same H3 (upd H3 p4 (.tup [.int 1])) := same_new h4
    generalize upd H3 p4 (.tup [.int 1]) = H4 at a4 s4 ⊢
    refine fun p5 h5 => ?_
    have a5 : upd H4 p5 (.dK []) p5 = some (.dK []) := upd_same
    have s5 : Same H4 (upd H4 p5 (.dK [])) := same_new h5
    generalize upd H4 p5 (.dK []) = H5 at a5 s5 ⊢
    refine fun p6 h6 => ⟨upd_same, [(Sum.inr "a", .int 1)], rfl, by decide, ?_⟩
    have a6 : upd (upd H5 p6 (.dK [])) p6 (.dK (mergeK [] [(Sum.inr "a", .int 1)])) p6 = some (.dK [(Sum.inr "a", .int 1)]) := upd_same
    have s6 : Same H5 (upd (upd H5 p6 (.dK [])) p6 (.dK (mergeK [] [(Sum.inr "a", .int 1)]))) := by
      rw [upd_upd]
      exact same_new h6
    generalize upd (upd H5 p6 (.dK [])) p6 (.dK (mergeK [] [(Sum.inr "a", .int 1)])) = H6 at a6 s6 ⊢
    refine ⟨(by show 15 ≤ sizeLine; decide), fun p h f => ?_⟩
    have t6 : Same H H6 := s1.trans (s2.trans (s3.trans (s4.trans (s5.trans s6))))
    have npr : p ≠ r := fun z => by
      obtain ⟨o, e⟩ := (hR.same t6).some
      rw [z, e] at h
      cases h
    refine ⟨_, rfl, _, rfl, r, p, _, rfl, (hR.same t6).new h, upd_same, npr, List.cons_ne_nil _ _, (by show 15 ≤ 1000; decide), fun v H' hv g' b' => ?_⟩
    have sz : ∀ u, Same H6 (upd H6 p u) := fun u => same_new h
    have fr : But r H H' := (But.of (t6.trans (sz _))).trans b'
    have up : ∀ {Hk : Hp}, Same H Hk → ∀ {pk : Addr} {o : HO}, Hk pk = none → ∀ {Hm : Hp}, Hm pk = some o → Same Hm H6 → news H H' pk = some o := by
      intro Hk h0 pk o hn Hm hm hs
      have n0 : H pk = none := h0.free hn
      refine news_at n0 (b' _ _ (fun z => ?_) (sz _ _ _ (hs _ _ hm)))
      obtain ⟨u, hu⟩ := hR.some
      rw [z, hu] at n0
      cases n0
    have z5 := s6
    have z4 := s5.trans z5
    have z3 := s4.trans z4
    have z2 := s3.trans z3
    have z1 := s2.trans z2
    have b1 := s1
    have b2 := b1.trans s2
    have b3 := b2.trans s3
    have b4 := b3.trans s4
    have b5 := b4.trans s5
    have n1 := up (Same.refl H) h1 a1 z1
    have n2 := up b1 h2 a2 z2
    have n3 := up b2 h3 a3 z3
    have n4 := up b3 h4 a4 z4
    have n5 := up b4 h5 a5 z5
    have n6 := up b5 h6 a6 (Same.refl _)
    have fin : ∀ d, Dt true (news H H') v d → Thing d → Q v H' := fun d hd hn => q v d H' g' fr hd hn
    simp only [List.mem_cons, List.not_mem_nil, or_false] at hv
    rcases hv with rfl | rfl | rfl | rfl | rfl | rfl | rfl | rfl | rfl | rfl | rfl | rfl | rfl | rfl | rfl
    · exact fin _ .non (thing_no (by decide +kernel) rfl)
    · exact fin _ (.bl _) (thing_no (by decide +kernel) rfl)
    · exact fin _ (.bl _) (thing_no (by decide +kernel) rfl)
    · exact fin _ (.str _) (thing_str (by decide +kernel) (by decide +kernel))
    · exact fin _ (.str _) (thing_str (by decide +kernel) (by decide +kernel))
    · exact fin _ (.str _) (thing_str (by decide +kernel) (by decide +kernel))
    · exact fin _ (.str _) (thing_str (by decide +kernel) (by decide +kernel))
    · exact fin _ (.str _) (thing_str (by decide +kernel) (by decide +kernel))
    · exact fin _ (.lst n1 (fun _ => f1) .nil) (thing_no (by decide +kernel) rfl)
    · exact fin _ (.lst n2 (fun _ => f2) (.cons (.str _) .nil)) (thing_no (by decide +kernel) rfl)
    · exact fin _ (.tup n3 .nil) (thing_no (by decide +kernel) rfl)
    · exact fin _ (.tup n4 (.cons (.int 1) .nil)) (thing_no (by decide +kernel) rfl)
    · exact fin _ (.dict (kds := []) n5 .nil) (thing_no (by decide +kernel) rfl)
    · exact fin _ (.dict (kds := [(Sum.inr "a", .int 1)]) n6 (.cons ⟨rfl, rfl⟩ .nil)) (thing_no (by decide +kernel) rfl)
    · exact fin _ (.str _) (thing_str (by decide +kernel) (by decide +kernel))
/-- two things -/
def spPair : Sp := fun vs H Q _ => ∃ r : Addr, vs = [.ref r] ∧ Rg H r ∧ ∀ p v u d e H', Rg H' r → But r H H' → H' p = some (.lst [v, u]) → Dt true H' v d → Dt true H' u e → Thing d → Thing e → Q (.ref p) H'
theorem ok_pair {f fD fC fN fT fO : Addr} {fd fdD fdC fdN fdT fdO : FuncData} (F : Fun K "_law_pair" "_law_pair" s__law_pair f fd) (T : Blt mg)
    (F__law_draw : Fun K "_law_draw" "_law_draw" s__law_draw fD fdD) (b__law_draw : Binds K fdD ["_law_rng_here", "_law_many"] []) (g__law_draw : mg "_law_draw" = some (.ref fD))
    (F__law_choice : Fun K "_law_choice" "_law_choice" s__law_choice fC fdC) (b__law_choice : Binds K fdC ["_law_rng_here", "_law_options"] []) (g__law_choice : mg "_law_choice" = some (.ref fC))
    (F__law_number : Fun K "_law_number" "_law_number" s__law_number fN fdN) (b__law_number : Binds K fdN ["_law_rng_here", "_law_near"] []) (g__law_number : mg "_law_number" = some (.ref fN))
    (F__law_text : Fun K "_law_text" "_law_text" s__law_text fT fdT) (b__law_text : Binds K fdT ["_law_rng_here", "_law_near"] []) (g__law_text : mg "_law_text" = some (.ref fT))
    (F__law_odd : Fun K "_law_odd" "_law_odd" s__law_odd fO fdO) (b__law_odd : Binds K fdO ["_law_rng_here"] []) (g__law_odd : mg "_law_odd" = some (.ref fO)) :
    FnOk P w K mg base CX0 4 f fd ["_law_rng_here"] spPair := by
  have sc := sc__law_pair
  have G__law_draw : FnOk P w K mg base CX0 1 fD fdD _ spDraw := ok_draw F__law_draw T
  have G__law_choice : FnOk P w K mg base CX0 2 fC fdC _ (spChoice K) := ok_choice F__law_choice T F__law_draw b__law_draw g__law_draw
  have G__law_number : FnOk P w K mg base CX0 2 fN fdN _ spNumber := ok_number F__law_number T F__law_draw b__law_draw g__law_draw
  have G__law_text : FnOk P w K mg base CX0 2 fT fdT _ spText := ok_text F__law_text T F__law_draw b__law_draw g__law_draw
  have G__law_odd : FnOk P w K mg base CX0 3 fO fdO _ spOdd := ok_odd F__law_odd T F__law_draw b__law_draw g__law_draw F__law_choice b__law_choice g__law_choice
  refine F.ok sc (fun vs H Q E h => ?_) (fun cdv A outer s H vs Q E hr h => ?_)
  · obtain ⟨r, rfl, _⟩ := h
    rfl
  · obtain ⟨r, rfl, hR, q⟩ := h
    have ten6 : ((10 : Int) ^ (6 : Int).toNat) = 1000000 := by decide +kernel
    have ten7 : (10 : Nat) ^ 7 = 10000000 := by decide
    have ten31 : (10 : Nat) ^ 31 = 10000000000000000000000000000000 := by decide +kernel
    refine ⟨_, (pss_cons (ps_par (i := 1) (j := 2) (by rfl) sc.nd rfl rfl (by decide) rfl rfl (pa_cons (pe_call G__law_draw (hr.mono (by decide)) (by rfl) g__law_draw F__law_draw.kp b__law_draw .nil pass0 (pa_cons (pv 0) (pa_cons (pe_op op_pow pe_int pe_int) pa_nil))) (pa_cons (pe_call G__law_text (hr.mono (by decide)) (by rfl) g__law_text F__law_text.kp b__law_text .nil pass0 (pa_cons (pv 0) (pa_cons pe_str pa_nil))) pa_nil)) (by rfl))
      (pss_cons (ps_par (i := 3) (j := 4) (by rfl) sc.nd rfl rfl (by decide) rfl rfl (pa_cons (pe_lst (pa_cons (pv 1) (pa_cons (pe_call G__law_number (hr.mono (by decide)) (by rfl) g__law_number F__law_number.kp b__law_number .nil pass0 (pa_cons (pv 0) (pa_cons (pv 1) pa_nil))) pa_nil))) (pa_cons (pe_lst (pa_cons (pv 2) (pa_cons (pe_call G__law_text (hr.mono (by decide)) (by rfl) g__law_text F__law_text.kp b__law_text .nil pass0 (pa_cons (pv 0) (pa_cons (pv 2) pa_nil))) pa_nil))) pa_nil)) (by rfl))
      (pss_cons (ps_set (i := 5) sc.nd rfl (.inl rfl) (pe_call G__law_draw (hr.mono (by decide)) (by rfl) g__law_draw F__law_draw.kp b__law_draw .nil pass0 (pa_cons (pv 0) (pa_cons pe_int pa_nil))))
      (pss_cons (ps_if (pt_cmpR op_lt (pv 5) pe_int (nomark _)) (pss_one (ps_ret (pv 3))) pss_nil)
      (pss_cons (ps_if (pt_cmpR op_lt (pv 5) pe_int (nomark _)) (pss_one (ps_ret (pv 4))) pss_nil)
      (pss_cons (ps_if (pt_cmpR op_eq (pv 5) pe_int (nomark _)) (pss_one (ps_ret (pe_ix ix_list (pe_lst (pa_cons (pe_lst (pa_cons (pe_ix ix_list (pv 3) pe_int (fun _ _ => rfl)) (pa_cons (pv 2) pa_nil))) (pa_cons (pe_lst (pa_cons (pv 2) (pa_cons (pe_ix ix_list (pv 3) pe_int (fun _ _ => rfl)) pa_nil))) pa_nil))) (pe_call G__law_draw (hr.mono (by decide)) (by rfl) g__law_draw F__law_draw.kp b__law_draw .nil pass0 (pa_cons (pv 0) (pa_cons pe_int pa_nil))) (fun _ _ => rfl)))) pss_nil)
      (pss_cons (ps_set (i := 6) sc.nd rfl (.inl rfl) (pe_lst (pa_cons (pe_call G__law_choice (hr.mono (by decide)) (by rfl) g__law_choice F__law_choice.kp b__law_choice .nil pass0 (pa_cons (pv 0) (pa_cons (pe_op op_catF (pv 3) (pv 4)) pa_nil))) (pa_cons (pe_call G__law_odd (hr.mono (by decide)) (by rfl) g__law_odd F__law_odd.kp b__law_odd .nil pass0 (pa_cons (pv 0) pa_nil)) pa_nil))))
      (pss_cons (ps_if (pt_cmpR op_eq (pv 5) pe_int (nomark _)) (pss_one (ps_set (i := 6) sc.nd rfl (.inl rfl) (pe_lst (pa_cons (pe_call G__law_odd (hr.mono (by decide)) (by rfl) g__law_odd F__law_odd.kp b__law_odd .nil pass0 (pa_cons (pv 0) pa_nil)) (pa_cons (pe_call G__law_choice (hr.mono (by decide)) (by rfl) g__law_choice F__law_choice.kp b__law_choice .nil pass0 (pa_cons (pv 0) (pa_cons (pe_lst (pa_cons (pe_ix ix_list (pv 6) pe_int (fun _ _ => rfl)) (pa_cons (pe_ix ix_list (pv 6) pe_int (fun _ _ => rfl)) pa_nil))) pa_nil))) pa_nil))))) pss_nil)
      (pss_one (ps_ret (pv 6))))))))))), ?_⟩
    refine ⟨_, rfl, _, _, rfl, rfl, ⟨by decide, by decide, by decide⟩, r, _, rfl, hR, (by rw [ten6]; decide), (by rw [ten6]; decide), fun a H1 a0 a1 g1 b1 => ?_⟩
    rw [ten6] at a1
    refine ⟨_, rfl, r, "", rfl, g1, txt_none, fun x H2 tx g2 b2 => ⟨_, _, rfl, ?_⟩⟩
    refine ⟨_, rfl, _, rfl, _, rfl, r, a, rfl, g2, (by rw [ten7]; omega), fun b H3 nb g3 b3 => ⟨(by show 2 ≤ sizeLine; decide), fun pn hn => ?_⟩⟩
    have an : upd H3 pn (.lst [.int a, .int b]) pn = some (.lst [.int a, .int b]) := upd_same
    have g4 := g3.new (o := .lst [.int a, .int b]) hn
    have b4 := ((b1.trans b2).trans b3).trans (But.of (r := r) (same_new (o := .lst [.int a, .int b]) hn))
    have nn : pn ≠ r := fun z => by
      obtain ⟨o, e⟩ := g3.some
      rw [z, e] at hn
      cases hn
    generalize upd H3 pn (.lst [.int a, .int b]) = H4 at an g4 b4 ⊢
    refine ⟨_, rfl, _, rfl, _, rfl, r, x, rfl, g4, tx, fun y H5 ty g5 b5 => ⟨(by show 2 ≤ sizeLine; decide), fun pt ht => ⟨_, _, rfl, ?_⟩⟩⟩
    have an5 := b5 _ _ nn an
    have st := same_new (o := .lst [.str x, .str y]) ht
    have at_ : upd H5 pt (.lst [.str x, .str y]) pt = some (.lst [.str x, .str y]) := upd_same
    have g6 := g5.new (o := .lst [.str x, .str y]) ht
    have b6 := (b4.trans b5).trans (But.of (r := r) st)
    have nt : pt ≠ r := fun z => by
      obtain ⟨o, e⟩ := g5.some
      rw [z, e] at ht
      cases ht
    have an6 := st _ _ an5
    generalize upd H5 pt (.lst [.str x, .str y]) = H6 at at_ g6 b6 an6 ⊢
    refine ⟨_, rfl, r, 9, rfl, g6, by decide, by decide, fun way H7 w0 w1 g7 b7 => ?_⟩
    have an := b7 _ _ nn an6
    have at_ := b7 _ _ nt at_
    have B7 := b6.trans b7
    have ta : Thing (.int a) := thing_int (by rw [ten31]; omega)
    have tb : Thing (.int b) := thing_int nb
    have t1 := thing_txt tx
    have t2 := thing_txt ty
    refine ⟨_, rfl, _, _, rfl, rfl, _, rfl, ite2 (fun e => ?_) (fun e => ?_)⟩
    · exact ⟨_, rfl, q pn _ _ _ _ H7 g7 B7 an (.int a) (.int b) ta tb⟩
    refine ⟨_, rfl, _, _, rfl, rfl, _, rfl, ite2 (fun e => ?_) (fun e => ?_)⟩
    · exact ⟨_, rfl, q pt _ _ _ _ H7 g7 B7 at_ (.str x) (.str y) t1 t2⟩
    refine ⟨_, rfl, rfl, _, rfl, ite2 (fun e => ?_) (fun e => ?_)⟩
    · refine ⟨_, rfl, pn, _, _, _, rfl, rfl, SqL.of an, atI_nat (j := 0) rfl, _, rfl, (by show 2 ≤ sizeLine; decide), fun p1 h1 => ?_⟩
      have s1 := same_new (o := .lst [.int a, .str x]) h1
      have c1 : upd H7 p1 (.lst [.int a, .str x]) p1 = some (.lst [.int a, .str x]) := upd_same
      generalize upd H7 p1 (.lst [.int a, .str x]) = K1 at s1 c1 ⊢
      refine ⟨_, rfl, _, rfl, pn, _, _, _, rfl, rfl, SqL.of (s1 _ _ an), atI_nat (j := 1) rfl, (by show 2 ≤ sizeLine; decide), fun p2 h2 => ?_⟩
      have s2 := same_new (o := .lst [.str x, .int b]) h2
      have c2 : upd K1 p2 (.lst [.str x, .int b]) p2 = some (.lst [.str x, .int b]) := upd_same
      generalize upd K1 p2 (.lst [.str x, .int b]) = K2 at s2 c2 ⊢
      refine ⟨(by show 2 ≤ sizeLine; decide), fun p3 h3 => ?_⟩
      have s3 := same_new (o := .lst [.ref p1, .ref p2]) h3
      have c3 : upd K2 p3 (.lst [.ref p1, .ref p2]) p3 = some (.lst [.ref p1, .ref p2]) := upd_same
      generalize upd K2 p3 (.lst [.ref p1, .ref p2]) = K3 at s3 c3 ⊢
      have s13 := s1.trans (s2.trans s3)
      have off : ∀ {p : Addr} {o : HO}, H7 p = none → p ≠ r := fun {p o} h z => by
        obtain ⟨o, e⟩ := g7.some
        rw [z, e] at h
        cases h
      have n1 : p1 ≠ r := off (o := .lst []) h1
      have n2 : p2 ≠ r := off (o := .lst []) (s1.free h2)
      have n3 : p3 ≠ r := off (o := .lst []) ((s1.trans s2).free h3)
      refine ⟨_, rfl, r, 2, rfl, g7.same s13, by decide, by decide, fun c H8 x0 x1 g8 b8 => ?_⟩
      have B8 := (B7.trans (But.of (r := r) s13)).trans b8
      by_cases ec : c = 0
      · subst ec
        exact ⟨p3, _, _, _, rfl, rfl, SqL.of (b8 _ _ n3 c3), atI_nat (j := 0) rfl, q p1 _ _ _ _ H8 g8 B8 (b8 _ _ n1 (s3 _ _ (s2 _ _ c1))) (.int a) (.str x) ta t1⟩
      · have ec : c = 1 := by omega
        subst ec
        exact ⟨p3, _, _, _, rfl, rfl, SqL.of (b8 _ _ n3 c3), atI_nat (j := 1) rfl, q p2 _ _ _ _ H8 g8 B8 (b8 _ _ n2 (s3 _ _ c2)) (.str x) (.int b) t1 tb⟩
    refine ⟨_, rfl, _, rfl, _, rfl, pn, pt, _, _, rfl, rfl, an, at_, (by show 4 ≤ sizeLine; decide), fun pc hc fc => ?_⟩
    have sc1 := same_new (o := .lst ([.int a, .int b] ++ [.str x, .str y])) hc
    have cc : upd H7 pc (.lst ([.int a, .int b] ++ [.str x, .str y])) pc = some (.lst ([.int a, .int b] ++ [.str x, .str y])) := upd_same
    generalize upd H7 pc (.lst ([.int a, .int b] ++ [.str x, .str y])) = K1 at sc1 cc ⊢
    have nc : pc ≠ r := fun z => by
      obtain ⟨o, e⟩ := g7.some
      rw [z, e] at hc
      cases hc
    refine ⟨r, pc, _, rfl, g7.same sc1, cc, nc, List.cons_ne_nil _ _, (by show 4 ≤ 1000; decide), fun v H8 mv g8 b8 => ?_⟩
    have tv : ∃ d, (∀ G : Hp, Dt true G v d) ∧ Thing d := by
      have mv : v ∈ [V.int a, .int b, .str x, .str y] := mv
      simp only [List.mem_cons, List.not_mem_nil, or_false] at mv
      rcases mv with rfl | rfl | rfl | rfl
      · exact ⟨_, fun _ => .int a, ta⟩
      · exact ⟨_, fun _ => .int b, tb⟩
      · exact ⟨_, fun _ => .str x, t1⟩
      · exact ⟨_, fun _ => .str y, t2⟩
    obtain ⟨d, dv, td⟩ := tv
    refine ⟨_, rfl, r, rfl, g8, fun u e2 H9 g9 b9 du te => ⟨(by show 2 ≤ sizeLine; decide), fun pm hm => ?_⟩⟩
    have sm := same_new (o := .lst [v, u]) hm
    have am : upd H9 pm (.lst [v, u]) pm = some (.lst [v, u]) := upd_same
    have gm := g9.new (o := .lst [v, u]) hm
    have nm : pm ≠ r := fun z => by
      obtain ⟨o, e⟩ := g9.some
      rw [z, e] at hm
      cases hm
    generalize upd H9 pm (.lst [v, u]) = K2 at sm am gm ⊢
    have Bm := (((B7.trans (But.of (r := r) sc1)).trans b8).trans b9).trans (But.of (r := r) sm)
    refine ⟨_, rfl, rfl, _, rfl, ite2 (fun e => ?_) (fun e => ?_)⟩
    · refine ⟨_, rfl, r, rfl, gm, fun v2 d3 H10 g10 b10 dv2 t3 => ?_⟩
      have am10 := b10 _ _ nm am
      refine ⟨_, rfl, _, rfl, pm, _, _, _, rfl, rfl, SqL.of am10, atI_nat (j := 0) rfl, _, rfl, pm, _, _, _, rfl, rfl, SqL.of am10, atI_nat (j := 1) rfl, (by show 2 ≤ sizeLine; decide), fun pk hk => ?_⟩
      have sk := same_new (o := .lst [v, u]) hk
      have ak : upd H10 pk (.lst [v, u]) pk = some (.lst [v, u]) := upd_same
      have gk := g10.new (o := .lst [v, u]) hk
      have nk : pk ≠ r := fun z => by
        obtain ⟨o, e⟩ := g10.some
        rw [z, e] at hk
        cases hk
      generalize upd H10 pk (.lst [v, u]) = K3 at sk ak gk ⊢
      refine ⟨r, pk, _, rfl, gk, ak, nk, List.cons_ne_nil _ _, (by show 2 ≤ 1000; decide), fun u2 H11 mu g11 b11 => ⟨(by show 2 ≤ sizeLine; decide), fun pz hz => ?_⟩⟩
      have sz := same_new (o := .lst [v2, u2]) hz
      have B1 : But r H10 (upd H11 pz (.lst [v2, u2])) := ((But.of (r := r) sk).trans b11).trans (But.of (r := r) sz)
      have B2 : But r H9 (upd H11 pz (.lst [v2, u2])) := ((But.of (r := r) sm).trans b10).trans B1
      have dv3 := dt_to dv2 B1 gm.some
      have ex : ∃ e', Dt true (upd H11 pz (.lst [v2, u2])) u2 e' ∧ Thing e' := by
        simp only [List.mem_cons, List.not_mem_nil, or_false] at mu
        rcases mu with rfl | rfl
        · exact ⟨_, dv _, td⟩
        · exact ⟨_, dt_to du B2 g8.some, te⟩
      obtain ⟨e', de, te'⟩ := ex
      exact ⟨_, rfl, q pz v2 u2 d3 e' _ (g11.new hz) ((Bm.trans b10).trans B1) upd_same dv3 de t3 te'⟩
    · exact ⟨_, rfl, q pm v u d e2 K2 gm Bm am (dv _) (dt_to du (But.of (r := r) sm) g8.some) td te⟩
end
end K12

set_option Elab.async false
set_option linter.all false
set_option maxRecDepth 100000
set_option maxHeartbeats 8000000
namespace K12
open PySem PySem.Spec L2 PSG
open PyProof.Rows (IntsAre AllBare)
abbrev s_law : Stmt := topS 31
theorem sc_law : FnScope ["_law_script", "_law_k", "_law_rng_here", "_law_turn", "_law_first", "_law_second", "_law_a", "_law_b"] ["_law_script"] (defScope s_law) := ⟨rfl, rfl, rfl, by decide +kernel, rfl, by decide +kernel, by decide +kernel⟩

theorem strs_dp {K : PySem.W.Frag} {H : Hp} : ∀ l : List Str, DpAll K H (l.map V.str) (l.map PyData.str)
  | [] => .nil
  | x :: l => .cons (.str x) (strs_dp l)
theorem strs_lay : ∀ l : List Str, (∀ x ∈ l, PyData.strOk x = true) → PyData.canLayAll0 (l.map PyData.str) = true
  | [], _ => by simp [PyData.canLayAll0]
  | x :: l, h => by simp [PyData.canLayAll0, PyData.canLay0, h x List.mem_cons_self, strs_lay l fun y hy => h y (List.mem_cons_of_mem _ hy)]
theorem strs_depth : ∀ l : List Str, PyData.depthAll (l.map PyData.str) ≤ 1
  | [] => by simp [PyData.depthAll]
  | x :: l => by
    have ih := strs_depth l
    simp only [List.map_cons, PyData.depthAll, PyData.depth]
    omega
theorem strs_shaped {l : List Str} (h : ∀ x ∈ l, PyData.strOk x = true) : SeqAt.shaped (.list (l.map PyData.str)) = true := by
  have d := strs_depth l
  unfold SeqAt.shaped
  have e : (PyData.list (l.map PyData.str)).canLay0 = true := by simp only [PyData.canLay0, strs_lay l h]
  have e2 : (PyData.list (l.map PyData.str)).depth ≤ 64 := by simp only [PyData.depth]; omega
  rw [e, decide_eq_true e2]
  rfl
/-- two lists of the same texts are not unlike -/
theorem ne_strs {K : PySem.W.Frag} {H : Hp} {a p : Addr} {l : List Str} {Q : VK} (ok : ∀ x ∈ l, PyData.strOk x = true) (h1 : H a = some (.lst (l.map V.str))) (h2 : H p = some (.lst (l.map V.str))) (q : Q (.bl false) H) : rNeD K (.ref a) (.ref p) H Q := by
  refine ⟨_, _, .lst (SqL.of h1) (strs_dp l), .lst (SqL.of h2) (strs_dp l), strs_shaped ok, strs_shaped ok, ?_⟩
  rw [PySem.SeqAt.eqv_refl _ (by simp only [PyData.canLay0, strs_lay l ok])]
  exact q
theorem out_ok {d e : PyData} (hd : Thing d) (he : Thing e) : ∀ x ∈ out d e, PyData.strOk x = true := by
  have c1 : PyData.strOk "invalid" = true := by decide +kernel
  have c2 : PyData.strOk "unlike" = true := by decide +kernel
  have c3 : PyData.strOk "told" = true := by decide +kernel
  intro x hx
  unfold out at hx
  split at hx
  · simp only [List.mem_cons, List.not_mem_nil, or_false] at hx
    rcases hx with rfl | rfl
    · exact c1
    · exact hd.nice.ok
  · split at hx
    · simp only [List.mem_cons, List.not_mem_nil, or_false] at hx
      rcases hx with rfl | rfl
      · exact c1
      · exact he.nice.ok
    · split at hx
      · simp only [List.mem_cons, List.not_mem_nil, or_false] at hx
        rw [hx]
        exact c2
      · simp only [List.mem_cons, List.not_mem_nil, or_false] at hx
        rcases hx with rfl | rfl
        · exact c3
        · exact (nice_small (sgn_small d e)).ok
section
variable {P : Program} {w : World} {K : PySem.W.Frag} {mg : Str → Option Value} {base : Heap}
def spLaw (K : PySem.W.Frag) : Sp := fun vs H Q _ => ∃ (a : Addr) (ns : List Int), vs = [.ref a] ∧ SqL K H a (ns.map V.int) ∧ ns.length ≤ 63 ∧ ∀ H', Q (.bl true) H'
set_option maxHeartbeats 40000000 in
theorem ok_law {f fR fP fT fD : Addr} {fd dR dP dT dD : FuncData} (F : Fun K "law" "law" s_law f fd) (T : Blt mg)
    (F__law_rng : Fun K "_law_rng" "_law_rng" s__law_rng fR dR) (b__law_rng : Binds K dR ["_law_script", "_law_k"] []) (g__law_rng : mg "_law_rng" = some (.ref fR))
    (F__law_pair : Fun K "_law_pair" "_law_pair" s__law_pair fP dP) (b__law_pair : Binds K dP ["_law_rng_here"] []) (g__law_pair : mg "_law_pair" = some (.ref fP)) (G__law_pair : FnOk P w K mg base CX0 4 fP dP ["_law_rng_here"] spPair)
    (F__law_told : Fun K "_law_told" "_law_told" s__law_told fT dT) (b__law_told : Binds K dT ["_law_first", "_law_second", "_law_is_named"] []) (g__law_told : mg "_law_told" = some (.ref fT)) (G__law_told : FnG P w K mg base CX0 4 fT dT ["_law_first", "_law_second", "_law_is_named"] spTold)
    (F__law_due : Fun K "_law_due" "_law_due" s__law_due fD dD) (b__law_due : Binds K dD ["_law_first", "_law_second"] []) (g__law_due : mg "_law_due" = some (.ref fD)) (G__law_due : FnG P w K mg base CX0 3 fD dD ["_law_first", "_law_second"] spDue) :
    FnG P w K mg base CX0 5 f fd ["_law_script"] (spLaw K) := by
  have sc := sc_law
  have G__law_rng : FnOk P w K mg base CX0 1 fR dR ["_law_script", "_law_k"] (spRng K) := ok_rng F__law_rng T
  refine okG F sc (fun vs H Q E h => ?_) (fun cdv B up s H vs Q E hr gd h => ?_)
  · obtain ⟨a, ns, rfl, _⟩ := h
    rfl
  · obtain ⟨a, ns, rfl, hS, hlen, k⟩ := h
    refine ⟨_, (pss_cons (ps_for PassesOwn.never (by rfl) (pi_range1 (by rfl) T.n_range (pa_cons (pe_callB (call_max2 rfl) (by rfl) T.n_max (by decide +kernel) (pa_cons pe_int (pa_cons (pe_callB (call_min2 rfl) (by rfl) T.n_min (by decide +kernel) (pa_cons (pe_callB call_len_seq (by rfl) T.n_len PySem.boot_len (pa_cons (pv 0) pa_nil)) (pa_cons pe_int pa_nil))) pa_nil))) pa_nil)) (pg_name (i := 1) sc.nd rfl (.inl rfl)) (pss_cons (ps_set (i := 2) sc.nd rfl (.inl rfl) (pe_call G__law_rng (hr.mono (by decide)) (by rfl) g__law_rng F__law_rng.kp b__law_rng .nil pass0 (pa_cons (pv 0) (pa_cons (pv 1) pa_nil))))
      (pss_one (ps_for PassesOwn.never (by rfl) (pi_range1 (by rfl) T.n_range (pa_cons pe_int pa_nil)) (pg_name (i := 3) sc.nd rfl (.inl rfl)) (pss_cons (ps_asg (pe_call G__law_pair (hr.mono (by decide)) (by rfl) g__law_pair F__law_pair.kp b__law_pair .nil pass0 (pa_cons (pv 2) pa_nil)) (pg_lst (by rfl) (pgs_cons (pg_name (i := 4) sc.nd rfl (.inl rfl)) (pgs_cons (pg_name (i := 5) sc.nd rfl (.inl rfl)) pgs_nil))))
      (pss_one (ps_for PassesOwn.never (by rfl) (pi_tup (pe_tup (pa_cons (pe_tup (pa_cons (pv 4) (pa_cons (pv 5) pa_nil))) (pa_cons (pe_tup (pa_cons (pv 5) (pa_cons (pv 4) pa_nil))) (pa_cons (pe_tup (pa_cons (pv 4) (pa_cons (pv 4) pa_nil))) (pa_cons (pe_tup (pa_cons (pv 4) (pa_cons (pv 5) pa_nil))) pa_nil)))))) (pg_tup (by rfl) (pgs_cons (pg_name (i := 6) sc.nd rfl (.inl rfl)) (pgs_cons (pg_name (i := 7) sc.nd rfl (.inl rfl)) pgs_nil))) (pss_one (ps_if (pt_cmpR (op_neD hr.units) (pe_callG G__law_told (hr.mono (by decide)) gd (by rfl) g__law_told F__law_told.kp b__law_told .nil pass0 (pa_cons (pv 6) (pa_cons (pv 7) (pa_cons (pe_cmpR op_eq (pe_op op_mod (pv 3) pe_int) pe_int (nomark _)) pa_nil)))) (pe_callG G__law_due (hr.mono (by decide)) gd (by rfl) g__law_due F__law_due.kp b__law_due .nil pass0 (pa_cons (pv 6) (pa_cons (pv 7) pa_nil))) (nomark _)) (pss_one (ps_ret pe_bl)) pss_nil)))))))))
      (pss_one (ps_ret pe_bl))), ?_⟩
    refine ⟨_, rfl, a, _, rfl, .inl hS, _, _, rfl, _, _, rfl, _, rfl, ?_, ?_, for_range (lo := 0) (fun i σ G => ∃ u1 u2 u3 u4 u5 u6 u7, σ = [some (.ref a), u1, u2, u3, u4, u5, u6, u7] ∧ Same H G) ⟨none, none, none, none, none, none, none, rfl, Same.refl _⟩ ?_ ?_⟩
    · split <;> split <;> omega
    · split <;> split <;> omega
    · rintro i σ G hi ⟨u1, u2, u3, u4, u5, u6, u7, rfl, s0⟩
      have lt : i ≤ 1000 := by
        have z : (i : Int) < 8 := by
          have z1 : (i : Int) < _ := Int.lt_toNat.mp hi
          refine Int.lt_of_lt_of_le z1 ?_
          split <;> split <;> omega
        omega
      refine ⟨_, rfl, _, rfl, a, ns, i, (by show [V.ref a, V.int (0 + (i : Int))] = [V.ref a, V.int i]; rw [Int.zero_add]), s0.seq hS, lt, fun r x y hr0 x0 y0 y1 => ?_⟩
      have g1 : Rg (upd G r (.lst [.int x, .int y])) r := ⟨x, y, upd_same, x0, y0, y1⟩
      have s1 : Same G (upd G r (.lst [.int x, .int y])) := same_new hr0
      generalize upd G r (.lst [.int x, .int y]) = G1 at g1 s1 ⊢
      refine ⟨12, rfl, by decide, by decide, for_range (lo := 0) (fun j σ G' => ∃ u1 u3 u4 u5 u6 u7, σ = [some (.ref a), u1, some (.ref r), u3, u4, u5, u6, u7] ∧ Rg G' r ∧ But r G1 G') ⟨_, _, _, _, _, _, rfl, g1, But.refl⟩ ?_ ?_⟩
      · rintro j σ G2 hj ⟨v1, v3, v4, v5, v6, v7, rfl, g2, b2⟩
        refine ⟨_, rfl, r, rfl, g2, fun p v u d e H3 g3 b3 ap dv du td te => ?_⟩
        refine ⟨p, [v, u], rfl, SqL.of ap, rfl, _, _, rfl, _, _, rfl, rfl, ?_⟩
        refine ⟨_, rfl, _, rfl, (by show 2 ≤ sizeLine; decide), fun p1 h1 => ?_⟩
        have t1 := same_new (o := .tup [v, u]) h1
        have c1 : upd H3 p1 (.tup [v, u]) p1 = some (.tup [v, u]) := upd_same
        generalize upd H3 p1 (.tup [v, u]) = K1 at t1 c1 ⊢
        refine ⟨_, rfl, _, rfl, (by show 2 ≤ sizeLine; decide), fun p2 h2 => ?_⟩
        have t2 := same_new (o := .tup [u, v]) h2
        have c2 : upd K1 p2 (.tup [u, v]) p2 = some (.tup [u, v]) := upd_same
        generalize upd K1 p2 (.tup [u, v]) = K2 at t2 c2 ⊢
        refine ⟨_, rfl, _, rfl, (by show 2 ≤ sizeLine; decide), fun p3 h3 => ?_⟩
        have t3 := same_new (o := .tup [v, v]) h3
        have c3 : upd K2 p3 (.tup [v, v]) p3 = some (.tup [v, v]) := upd_same
        generalize upd K2 p3 (.tup [v, v]) = K3 at t3 c3 ⊢
        refine ⟨_, rfl, _, rfl, (by show 2 ≤ sizeLine; decide), fun p4 h4 => ?_⟩
        have t4 := same_new (o := .tup [v, u]) h4
        have c4 : upd K3 p4 (.tup [v, u]) p4 = some (.tup [v, u]) := upd_same
        generalize upd K3 p4 (.tup [v, u]) = K4 at t4 c4 ⊢
        refine ⟨(by show 4 ≤ sizeLine; decide), fun p5 h5 => ⟨p5, rfl, ⟨_, SqT.of upd_same⟩, ?_⟩⟩
        have t5 := same_new (o := .tup [.ref p1, .ref p2, .ref p3, .ref p4]) h5
        have c5 : upd K4 p5 (.tup [.ref p1, .ref p2, .ref p3, .ref p4]) p5 = some (.tup [.ref p1, .ref p2, .ref p3, .ref p4]) := upd_same
        generalize upd K4 p5 (.tup [.ref p1, .ref p2, .ref p3, .ref p4]) = K5 at t5 c5 ⊢
        have z4 := t4.trans t5
        have z3 := t3.trans z4
        have z2 := t2.trans z3
        have z1 := t1.trans z2
        have dv := dv.same z1
        have du := du.same z1
        have all : ∀ (n : Nat) (x : V), [V.ref p1, .ref p2, .ref p3, .ref p4][n]? = some x → ∃ q x1 x2 d1 d2, x = .ref q ∧ K5 q = some (.tup [x1, x2]) ∧ Dt true K5 x1 d1 ∧ Dt true K5 x2 d2 ∧ Thing d1 ∧ Thing d2 := fun n x hx => by
          match n, hx with
          | 0, hx => cases hx; exact ⟨p1, v, u, d, e, rfl, z2 _ _ c1, dv, du, td, te⟩
          | 1, hx => cases hx; exact ⟨p2, u, v, e, d, rfl, z3 _ _ c2, du, dv, te, td⟩
          | 2, hx => cases hx; exact ⟨p3, v, v, d, d, rfl, z4 _ _ c3, dv, dv, td, td⟩
          | 3, hx => cases hx; exact ⟨p4, v, u, d, e, rfl, t5 _ _ c4, dv, du, td, te⟩
          | n + 4, hx => cases hx
        refine for_tup (xs := [.ref p1, .ref p2, .ref p3, .ref p4]) (fun n σ G' => ∃ u1 u4 u5 u6 u7, σ = [some (.ref a), u1, some (.ref r), some (.int (0 + (j : Int))), u4, u5, u6, u7] ∧ Same K5 G') ⟨_, _, _, _, _, rfl, Same.refl _⟩ (fun n σ G' _ ⟨_, _, _, _, _, _, z⟩ => SqT.of (z _ _ c5)) ?_ ?_
        · rintro n x σ G6 hx ⟨w1, w4, w5, w6, w7, rfl, s6⟩
          obtain ⟨q, x1, x2, d1, d2, rfl, aq, k1, k2, n1, n2⟩ := all n x hx
          refine ⟨q, [x1, x2], rfl, SqT.of (s6 _ _ aq), rfl, _, _, rfl, _, _, rfl, rfl, ?_⟩
          refine ⟨_, rfl, _, rfl, _, rfl, _, _, rfl, rfl, (by show (0 : Int) < _; decide), rfl, x1, x2, d1, d2, _, rfl, k1.same s6, k2.same s6, n1, n2, fun p7 G7 s7 a7 => ?_⟩
          refine ⟨_, rfl, _, rfl, x1, x2, d1, d2, rfl, k1.same (s6.trans s7), k2.same (s6.trans s7), n1, n2, fun p8 G8 s8 a8 => ?_⟩
          exact ne_strs (out_ok n1 n2) (s8 _ _ a7) a8 ⟨_, rfl, iteF ⟨_, _, _, _, _, rfl, s6.trans (s7.trans s8)⟩⟩
        · rintro σ G6 ⟨w1, w4, w5, w6, w7, rfl, s6⟩
          exact ⟨_, _, _, _, _, _, rfl, g3.same (z1.trans s6), (b2.trans b3).trans (But.of (r := r) (z1.trans s6))⟩
      · rintro σ G2 ⟨v1, v3, v4, v5, v6, v7, rfl, g2, b2⟩
        refine ⟨_, _, _, _, _, _, _, rfl, fun b o e => ?_⟩
        have e1 := s0 _ _ e
        exact b2 _ _ (ne_of_none e1 hr0) (s1 _ _ e1)
    · rintro σ G ⟨u1, u2, u3, u4, u5, u6, u7, rfl, s0⟩
      exact k G
end
end K12

set_option Elab.async false
set_option linter.all false
set_option maxRecDepth 100000
set_option maxHeartbeats 8000000
namespace K12
open PySem PySem.Spec L2 PSG
open PyProof.Rows (IntsAre AllBare)
/-- what the end asks of a class, in one look -/
def look (K : PySem.W.Frag) (C f : Addr) (bmB : List Value) (newId : String) (fs : List Str) : Bool :=
  PySem.W.excInitIn K C bmB newId && (PySem.W.excOver K C bmB && (PySem.W.hasDictIn K C && (decide (PySem.W.findIn K (.ref C) "__setattr__" = some (some (.builtin "object.__setattr__"))) &&
  (decide (PySem.W.typeIn K (.ref f) = some (.type "function")) && (PySem.W.keepIn K (.ref C) && (decide (PySem.W.subIn K (.ref C) (.type "BaseException") = some true) && (decide (PySem.W.typeIn K (.ref C) = some (.type "type")) &&
  (decide (PySem.W.findIn K (.ref C) "__getattribute__" = some (some (.builtin "BaseException.__getattribute__"))) && (decide (PySem.W.findIn K (.ref C) "__getattr__" = some none) && (decide (PySem.W.findIn K (.ref C) "__class__" = some (some (.builtin "object.__class__"))) &&
  (decide (PySem.W.mroIn K C (.type "object") = some true) && fs.all fun f => decide (PySem.W.findIn K (.ref C) f = some none))))))))))))
structure Look (K : PySem.W.Frag) (C f : Addr) (bmB : List Value) (newId : String) (fs : List Str) : Prop where
  made : PySem.W.excInitIn K C bmB newId = true
  over : PySem.W.excOver K C bmB = true
  dict : PySem.W.hasDictIn K C = true
  set : PySem.W.findIn K (.ref C) "__setattr__" = some (some (.builtin "object.__setattr__"))
  fn : PySem.W.typeIn K (.ref f) = some (.type "function")
  keep : PySem.W.keepIn K (.ref C) = true
  exc : PySem.W.subIn K (.ref C) (.type "BaseException") = some true
  ty : PySem.W.typeIn K (.ref C) = some (.type "type")
  get : PySem.W.findIn K (.ref C) "__getattribute__" = some (some (.builtin "BaseException.__getattribute__"))
  get2 : PySem.W.findIn K (.ref C) "__getattr__" = some none
  cls : PySem.W.findIn K (.ref C) "__class__" = some (some (.builtin "object.__class__"))
  obj : PySem.W.mroIn K C (.type "object") = some true
  no : ∀ f ∈ fs, PySem.W.findIn K (.ref C) f = some none
theorem look_ok {K : PySem.W.Frag} {C f : Addr} {bmB : List Value} {newId : String} {fs : List Str} (h : look K C f bmB newId fs = true) : Look K C f bmB newId fs := by
  unfold look at h
  simp only [Bool.and_eq_true, decide_eq_true_eq, List.all_eq_true] at h
  obtain ⟨h1, h2, h3, h4, h5, h6, h7, h8, h9, h10, h11, h12, h13⟩ := h
  exact ⟨h1, h2, h3, h4, h5, h6, h7, h8, h9, h10, h11, h12, h13⟩
theorem Look.xk {K : PySem.W.Frag} {C f : Addr} {B newId initId : String} {bmB : List Value} {fs : List Str} (L : Look K C f bmB newId fs) (i : PySem.W.findIn K (.ref C) "__init__" = some (some (.ref f))) (fb : ExcBaseFacts B newId initId bmB)
    (sf : StoreFacts B bmB "object.__setattr__" "object") : Xk K C f B newId initId bmB := ⟨fb, sf, L.made, L.over, L.dict, L.set, i, L.fn, L.keep, L.exc, L.ty⟩
theorem Look.xc {K : PySem.W.Frag} {C f : Addr} {newId : String} {bmB : List Value} {fs : List Str} (L : Look K C f bmB newId fs) (d1 : PySem.W.specialIn K (.builtin "object.__class__") "__get__" = some (some (.builtin "getset_descriptor.__get__")))
    (d2 : PySem.W.takesIn K (.builtin "object.__class__") = some true) : PySem.W.XcC K C := ⟨L.get, L.get2, L.exc, L.dict, L.cls, d1, d2, L.obj⟩
theorem ws_0 {ws : List V} (h : ws.length = ([] : List Str).length) : ws = [] := List.eq_nil_of_length_eq_zero h
theorem ws_1 {x : Str} {ws : List V} (h : ws.length = [x].length) : ∃ v, ws = [v] := match ws, h with | [v], _ => ⟨v, rfl⟩
/-- the few classes against each other, in one look -/
def kits (K : PySem.W.Frag) (CI CU CP C1 C2 C3 C4 : Addr) : Bool :=
  decide (PySem.W.exmOne K (.ref CU) (.ref CU) = some true) && (decide (PySem.W.exmOne K (.ref CI) (.ref CU) = some false) && (decide (PySem.W.exmOne K (.ref CI) (.ref CP) = some true) && (decide (PySem.W.kitOne K (.ref CU) (.type "RuntimeError") = some true) &&
  (decide (PySem.W.kitOne K (.ref CU) (.ref CP) = some false) && (decide (PySem.W.kitAny K (.ref CI) [.ref C1, .ref C2, .ref C3, .ref C4] = some false) && (decide (PySem.W.kitOne K (.ref CI) (.type "ValueError") = some true) && decide (PySem.W.kitOne K (.ref CI) (.ref CI) = some true)))))))
section
variable {P : Program} {w : World} {K : PySem.W.Frag} {mg : Str → Option Value} {base : Heap} {f C : Addr} {fd : FuncData} {B newId initId : String} {bmB : List Value}
abbrev si0 : Stmt := inClass (topS 10) 0
theorem sci0 : FnScope ["self", "value"] ["self", "value"] (defScope si0) := ⟨rfl, rfl, rfl, by decide +kernel, rfl, by decide +kernel, by decide +kernel⟩
theorem oki0 (F : Fun K "__init__" "InvalidValue.__init__" si0 f fd) (T : Xk K C f B newId initId bmB) (no0 : PySem.W.findIn K (.ref C) "value" = some none) : FnOk P w K mg base CX0 1 f fd ["self", "value"] (spXI C ["value"]) := by
  have sc := sci0
  refine F.ok sc (fun vs H Q E h => ?_) (fun cdv A outer s H vs Q E hr h => ?_)
  · obtain ⟨a, ws, rfl, hl, _⟩ := h
    exact congrArg Nat.succ hl
  · obtain ⟨a, ws, rfl, hl, hH, k⟩ := h
    obtain ⟨v0, rfl⟩ := ws_1 hl
    refine ⟨_, pss_one (ps_xset (pv 0) (pv 1)), ?_⟩
    refine ⟨_, rfl, _, rfl, a, C, f, _, _, _, _, rfl, T, no0, .inl ⟨hH, fun dx nd na => ?_⟩⟩
    have keep : ∀ u : HO, ∀ b o, b ≠ a → H b = some o → (upd (upd H dx u) a (exo a C (some dx))) b = some o := fun u b o hb e => (upd_ne hb).trans ((upd_ne (ne_of_none e nd)).trans e)
    exact k _ (keep _) (.inr ⟨dx, by simp, upd_same, (upd_ne na).trans upd_same⟩)
theorem own0 (F : Fun K "__init__" "InvalidValue.__init__" si0 f fd) (g : mg "InvalidValue" = some (.ref C)) (i : PySem.W.findIn K (.ref C) "__init__" = some (some (.ref f))) (L : Look K C f [.type "ValueError", .type "Exception", .type "BaseException", .type "object"] "ValueError.__new__" ["value"]) : Own P w K mg base "InvalidValue" C ["value"] := by
  have X := L.xk (B := "ValueError") (initId := "ValueError.__init__") i PySem.F.excBase_ValueError PySem.F.store_ValueError
  exact ⟨g, f, fd, ["self", "value"], _, _, _, _, X, oki0 F X (L.no _ (by decide +kernel)), F.binds (ps := ["self", "value"]) (fun _ _ _ _ _ _ us hl => match us, hl with | [_, _], _ => rfl), rfl⟩
abbrev si1 : Stmt := inClass (topS 15) 0
theorem sci1 : FnScope ["self"] ["self"] (defScope si1) := ⟨rfl, rfl, rfl, by decide +kernel, rfl, by decide +kernel, by decide +kernel⟩
theorem oki1 (F : Fun K "__init__" "Unlike.__init__" si1 f fd) (T : Xk K C f B newId initId bmB)  : FnOk P w K mg base CX0 1 f fd ["self"] (spXI C []) := by
  have sc := sci1
  refine F.ok sc (fun vs H Q E h => ?_) (fun cdv A outer s H vs Q E hr h => ?_)
  · obtain ⟨a, ws, rfl, hl, _⟩ := h
    exact congrArg Nat.succ hl
  · obtain ⟨a, ws, rfl, hl, hH, k⟩ := h
    obtain rfl := ws_0 hl
    refine ⟨_, pss_one ps_pass, ?_⟩
    exact k H (fun _ _ _ e => e) (.inl ⟨rfl, hH⟩)
theorem own1 (F : Fun K "__init__" "Unlike.__init__" si1 f fd) (g : mg "Unlike" = some (.ref C)) (i : PySem.W.findIn K (.ref C) "__init__" = some (some (.ref f))) (L : Look K C f [.type "RuntimeError", .type "Exception", .type "BaseException", .type "object"] "RuntimeError.__new__" []) : Own P w K mg base "Unlike" C [] := by
  have X := L.xk (B := "RuntimeError") (initId := "RuntimeError.__init__") i PySem.F.excBase_RuntimeError PySem.F.store_RuntimeError
  exact ⟨g, f, fd, ["self"], _, _, _, _, X, oki1 F X , F.binds (ps := ["self"]) (fun _ _ _ _ _ _ us hl => match us, hl with | [_], _ => rfl), rfl⟩
end
set_option maxHeartbeats 0 in
theorem all_mk {l : PySem.W.OpenLaw} {w : World} {K : PySem.W.Frag} {h : Heap} {mg : Str → Option Value} {fa CI CU CP C1 C2 C3 C4 f0 f1 fd0 fd1 fd2 fd3 fd4 fd5 fd6 fd7 fd8 fd9 fd10 fd11 fd12 fd13 fd14 fd15 fd16 fd17 fd18 : Addr} (X : K.In h) (G : h.Ns mainGlobals mg) (hfa : mg "law" = some (.ref fa))
    {od0 an0 od1 an1 odd0 and0 odd1 and1 odd2 and2 odd3 and3 odd4 and4 odd5 and5 odd6 and6 odd7 and7 odd8 and8 odd9 and9 odd10 and10 odd11 and11 odd12 and12 odd13 and13 odd14 and14 odd15 and15 odd16 and16 odd17 and17 odd18 and18 : Option Addr} {sl0 sl1 sld0 sld1 sld2 sld3 sld4 sld5 sld6 sld7 sld8 sld9 sld10 sld11 sld12 sld13 sld14 sld15 sld16 sld17 sld18 : Array (Option Value)} {oc0 kV0 dc0 pm0 cv0 ct0 oc1 kV1 dc1 pm1 cv1 ct1 ocd0 kVd0 dcd0 pmd0 cvd0 ctd0 ocd1 kVd1 dcd1 pmd1 cvd1 ctd1 ocd2 kVd2 dcd2 pmd2 cvd2 ctd2 ocd3 kVd3 dcd3 pmd3 cvd3 ctd3 ocd4 kVd4 dcd4 pmd4 cvd4 ctd4 ocd5 kVd5 dcd5 pmd5 cvd5 ctd5 ocd6 kVd6 dcd6 pmd6 cvd6 ctd6 ocd7 kVd7 dcd7 pmd7 cvd7 ctd7 ocd8 kVd8 dcd8 pmd8 cvd8 ctd8 ocd9 kVd9 dcd9 pmd9 cvd9 ctd9 ocd10 kVd10 dcd10 pmd10 cvd10 ctd10 ocd11 kVd11 dcd11 pmd11 cvd11 ctd11 ocd12 kVd12 dcd12 pmd12 cvd12 ctd12 ocd13 kVd13 dcd13 pmd13 cvd13 ctd13 ocd14 kVd14 dcd14 pmd14 cvd14 ctd14 ocd15 kVd15 dcd15 pmd15 cvd15 ctd15 ocd16 kVd16 dcd16 pmd16 cvd16 ctd16 ocd17 kVd17 dcd17 pmd17 cvd17 ctd17 ocd18 kVd18 dcd18 pmd18 cvd18 ctd18 : Value} {tL tM : Tok}
    (a0 : PySem.W.nsIn K mainGlobals "InvalidValue" = some (some (.ref CI)))
    (i0 : PySem.W.findIn K (.ref CI) "__init__" = some (some (.ref f0)))
    (l0 : K.lookup f0 = some ⟨oc0, od0, .func (PySem.W.fnOf "__init__" "InvalidValue.__init__" (defArgs si0) (defBody si0) (defScope si0) .none kV0 dc0 pm0 an0 cv0 ct0), sl0⟩)
    (c0 : PySem.W.codeIn K cv0 "InvalidValue.__init__" = true)
    (k0 : PySem.W.keepIn K (.ref f0) = true)
    (a1 : PySem.W.nsIn K mainGlobals "Unlike" = some (some (.ref CU)))
    (i1 : PySem.W.findIn K (.ref CU) "__init__" = some (some (.ref f1)))
    (l1 : K.lookup f1 = some ⟨oc1, od1, .func (PySem.W.fnOf "__init__" "Unlike.__init__" (defArgs si1) (defBody si1) (defScope si1) .none kV1 dc1 pm1 an1 cv1 ct1), sl1⟩)
    (c1 : PySem.W.codeIn K cv1 "Unlike.__init__" = true)
    (k1 : PySem.W.keepIn K (.ref f1) = true)
    (aCP : PySem.W.nsIn K mainGlobals "PairError" = some (some (.ref CP)))
    (aC1 : PySem.W.nsIn K mainGlobals "InvalidCount" = some (some (.ref C1)))
    (aC2 : PySem.W.nsIn K mainGlobals "InvalidName" = some (some (.ref C2)))
    (aC3 : PySem.W.nsIn K mainGlobals "InvalidText" = some (some (.ref C3)))
    (aC4 : PySem.W.nsIn K mainGlobals "InvalidVector" = some (some (.ref C4)))
    (ad0 : PySem.W.nsIn K mainGlobals "is_integer" = some (some (.ref fd0)))
    (ld0 : K.lookup fd0 = some ⟨ocd0, odd0, .func (PySem.W.fnOf "is_integer" "is_integer" (defArgs s_is_integer) (defBody s_is_integer) (defScope s_is_integer) .none kVd0 dcd0 pmd0 and0 cvd0 ctd0), sld0⟩)
    (cd0 : PySem.W.codeIn K cvd0 "is_integer" = true)
    (kd0 : PySem.W.keepIn K (.ref fd0) = true)
    (ad1 : PySem.W.nsIn K mainGlobals "is_letters" = some (some (.ref fd1)))
    (ld1 : K.lookup fd1 = some ⟨ocd1, odd1, .func (PySem.W.fnOf "is_letters" "is_letters" (defArgs s_is_letters) (defBody s_is_letters) (defScope s_is_letters) .none kVd1 dcd1 pmd1 and1 cvd1 ctd1), sld1⟩)
    (cd1 : PySem.W.codeIn K cvd1 "is_letters" = true)
    (kd1 : PySem.W.keepIn K (.ref fd1) = true)
    (ad2 : PySem.W.nsIn K mainGlobals "is_value" = some (some (.ref fd2)))
    (ld2 : K.lookup fd2 = some ⟨ocd2, odd2, .func (PySem.W.fnOf "is_value" "is_value" (defArgs s_is_value) (defBody s_is_value) (defScope s_is_value) .none kVd2 dcd2 pmd2 and2 cvd2 ctd2), sld2⟩)
    (cd2 : PySem.W.codeIn K cvd2 "is_value" = true)
    (kd2 : PySem.W.keepIn K (.ref fd2) = true)
    (ad3 : PySem.W.nsIn K mainGlobals "kind_of_value" = some (some (.ref fd3)))
    (ld3 : K.lookup fd3 = some ⟨ocd3, odd3, .func (PySem.W.fnOf "kind_of_value" "kind_of_value" (defArgs s_kind_of_value) (defBody s_kind_of_value) (defScope s_kind_of_value) .none kVd3 dcd3 pmd3 and3 cvd3 ctd3), sld3⟩)
    (cd3 : PySem.W.codeIn K cvd3 "kind_of_value" = true)
    (kd3 : PySem.W.keepIn K (.ref fd3) = true)
    (ad4 : PySem.W.nsIn K mainGlobals "sign_between" = some (some (.ref fd4)))
    (ld4 : K.lookup fd4 = some ⟨ocd4, odd4, .func (PySem.W.fnOf "sign_between" "sign_between" (defArgs s_sign_between) (defBody s_sign_between) (defScope s_sign_between) .none kVd4 dcd4 pmd4 and4 cvd4 ctd4), sld4⟩)
    (cd4 : PySem.W.codeIn K cvd4 "sign_between" = true)
    (kd4 : PySem.W.keepIn K (.ref fd4) = true)
    (ad5 : PySem.W.nsIn K mainGlobals "sign_of" = some (some (.ref fd5)))
    (ld5 : K.lookup fd5 = some ⟨ocd5, odd5, .func (PySem.W.fnOf "sign_of" "sign_of" (defArgs s_sign_of) (defBody s_sign_of) (defScope s_sign_of) .none kVd5 dcd5 pmd5 and5 cvd5 ctd5), sld5⟩)
    (cd5 : PySem.W.codeIn K cvd5 "sign_of" = true)
    (kd5 : PySem.W.keepIn K (.ref fd5) = true)
    (ad6 : PySem.W.nsIn K mainGlobals "_law_rng" = some (some (.ref fd6)))
    (ld6 : K.lookup fd6 = some ⟨ocd6, odd6, .func (PySem.W.fnOf "_law_rng" "_law_rng" (defArgs s__law_rng) (defBody s__law_rng) (defScope s__law_rng) .none kVd6 dcd6 pmd6 and6 cvd6 ctd6), sld6⟩)
    (cd6 : PySem.W.codeIn K cvd6 "_law_rng" = true)
    (kd6 : PySem.W.keepIn K (.ref fd6) = true)
    (ad7 : PySem.W.nsIn K mainGlobals "_law_draw" = some (some (.ref fd7)))
    (ld7 : K.lookup fd7 = some ⟨ocd7, odd7, .func (PySem.W.fnOf "_law_draw" "_law_draw" (defArgs s__law_draw) (defBody s__law_draw) (defScope s__law_draw) .none kVd7 dcd7 pmd7 and7 cvd7 ctd7), sld7⟩)
    (cd7 : PySem.W.codeIn K cvd7 "_law_draw" = true)
    (kd7 : PySem.W.keepIn K (.ref fd7) = true)
    (ad8 : PySem.W.nsIn K mainGlobals "_law_choice" = some (some (.ref fd8)))
    (ld8 : K.lookup fd8 = some ⟨ocd8, odd8, .func (PySem.W.fnOf "_law_choice" "_law_choice" (defArgs s__law_choice) (defBody s__law_choice) (defScope s__law_choice) .none kVd8 dcd8 pmd8 and8 cvd8 ctd8), sld8⟩)
    (cd8 : PySem.W.codeIn K cvd8 "_law_choice" = true)
    (kd8 : PySem.W.keepIn K (.ref fd8) = true)
    (ad9 : PySem.W.nsIn K mainGlobals "_law_number" = some (some (.ref fd9)))
    (ld9 : K.lookup fd9 = some ⟨ocd9, odd9, .func (PySem.W.fnOf "_law_number" "_law_number" (defArgs s__law_number) (defBody s__law_number) (defScope s__law_number) .none kVd9 dcd9 pmd9 and9 cvd9 ctd9), sld9⟩)
    (cd9 : PySem.W.codeIn K cvd9 "_law_number" = true)
    (kd9 : PySem.W.keepIn K (.ref fd9) = true)
    (ad10 : PySem.W.nsIn K mainGlobals "_law_text" = some (some (.ref fd10)))
    (ld10 : K.lookup fd10 = some ⟨ocd10, odd10, .func (PySem.W.fnOf "_law_text" "_law_text" (defArgs s__law_text) (defBody s__law_text) (defScope s__law_text) .none kVd10 dcd10 pmd10 and10 cvd10 ctd10), sld10⟩)
    (cd10 : PySem.W.codeIn K cvd10 "_law_text" = true)
    (kd10 : PySem.W.keepIn K (.ref fd10) = true)
    (ad11 : PySem.W.nsIn K mainGlobals "_law_odd" = some (some (.ref fd11)))
    (ld11 : K.lookup fd11 = some ⟨ocd11, odd11, .func (PySem.W.fnOf "_law_odd" "_law_odd" (defArgs s__law_odd) (defBody s__law_odd) (defScope s__law_odd) .none kVd11 dcd11 pmd11 and11 cvd11 ctd11), sld11⟩)
    (cd11 : PySem.W.codeIn K cvd11 "_law_odd" = true)
    (kd11 : PySem.W.keepIn K (.ref fd11) = true)
    (ad12 : PySem.W.nsIn K mainGlobals "_law_pair" = some (some (.ref fd12)))
    (ld12 : K.lookup fd12 = some ⟨ocd12, odd12, .func (PySem.W.fnOf "_law_pair" "_law_pair" (defArgs s__law_pair) (defBody s__law_pair) (defScope s__law_pair) .none kVd12 dcd12 pmd12 and12 cvd12 ctd12), sld12⟩)
    (cd12 : PySem.W.codeIn K cvd12 "_law_pair" = true)
    (kd12 : PySem.W.keepIn K (.ref fd12) = true)
    (ad13 : PySem.W.nsIn K mainGlobals "_law_kind" = some (some (.ref fd13)))
    (ld13 : K.lookup fd13 = some ⟨ocd13, odd13, .func (PySem.W.fnOf "_law_kind" "_law_kind" (defArgs s__law_kind) (defBody s__law_kind) (defScope s__law_kind) .none kVd13 dcd13 pmd13 and13 cvd13 ctd13), sld13⟩)
    (cd13 : PySem.W.codeIn K cvd13 "_law_kind" = true)
    (kd13 : PySem.W.keepIn K (.ref fd13) = true)
    (ad14 : PySem.W.nsIn K mainGlobals "_law_text_sign" = some (some (.ref fd14)))
    (ld14 : K.lookup fd14 = some ⟨ocd14, odd14, .func (PySem.W.fnOf "_law_text_sign" "_law_text_sign" (defArgs s__law_text_sign) (defBody s__law_text_sign) (defScope s__law_text_sign) .none kVd14 dcd14 pmd14 and14 cvd14 ctd14), sld14⟩)
    (cd14 : PySem.W.codeIn K cvd14 "_law_text_sign" = true)
    (kd14 : PySem.W.keepIn K (.ref fd14) = true)
    (ad15 : PySem.W.nsIn K mainGlobals "_law_number_sign" = some (some (.ref fd15)))
    (ld15 : K.lookup fd15 = some ⟨ocd15, odd15, .func (PySem.W.fnOf "_law_number_sign" "_law_number_sign" (defArgs s__law_number_sign) (defBody s__law_number_sign) (defScope s__law_number_sign) .none kVd15 dcd15 pmd15 and15 cvd15 ctd15), sld15⟩)
    (cd15 : PySem.W.codeIn K cvd15 "_law_number_sign" = true)
    (kd15 : PySem.W.keepIn K (.ref fd15) = true)
    (ad16 : PySem.W.nsIn K mainGlobals "_law_due" = some (some (.ref fd16)))
    (ld16 : K.lookup fd16 = some ⟨ocd16, odd16, .func (PySem.W.fnOf "_law_due" "_law_due" (defArgs s__law_due) (defBody s__law_due) (defScope s__law_due) .none kVd16 dcd16 pmd16 and16 cvd16 ctd16), sld16⟩)
    (cd16 : PySem.W.codeIn K cvd16 "_law_due" = true)
    (kd16 : PySem.W.keepIn K (.ref fd16) = true)
    (ad17 : PySem.W.nsIn K mainGlobals "_law_told" = some (some (.ref fd17)))
    (ld17 : K.lookup fd17 = some ⟨ocd17, odd17, .func (PySem.W.fnOf "_law_told" "_law_told" (defArgs s__law_told) (defBody s__law_told) (defScope s__law_told) .none kVd17 dcd17 pmd17 and17 cvd17 ctd17), sld17⟩)
    (cd17 : PySem.W.codeIn K cvd17 "_law_told" = true)
    (kd17 : PySem.W.keepIn K (.ref fd17) = true)
    (ad18 : PySem.W.nsIn K mainGlobals "law" = some (some (.ref fd18)))
    (ld18 : K.lookup fd18 = some ⟨ocd18, odd18, .func (PySem.W.fnOf "law" "law" (defArgs s_law) (defBody s_law) (defScope s_law) .none kVd18 dcd18 pmd18 and18 cvd18 ctd18), sld18⟩)
    (cd18 : PySem.W.codeIn K cvd18 "law" = true)
    (kd18 : PySem.W.keepIn K (.ref fd18) = true)
    (z_len : PySem.W.nsIn K mainGlobals "len" = some none)
    (z_max : PySem.W.nsIn K mainGlobals "max" = some none)
    (z_min : PySem.W.nsIn K mainGlobals "min" = some none)
    (z_abs : PySem.W.nsIn K mainGlobals "abs" = some none)
    (z_int : PySem.W.nsIn K mainGlobals "int" = some none)
    (z_divmod : PySem.W.nsIn K mainGlobals "divmod" = some none)
    (z_range : PySem.W.nsIn K mainGlobals "range" = some none)
    (z_isinstance : PySem.W.nsIn K mainGlobals "isinstance" = some none)
    (z_repr : PySem.W.nsIn K mainGlobals "repr" = some none)
    (z_zip : PySem.W.nsIn K mainGlobals "zip" = some none)
    (z_all : PySem.W.nsIn K mainGlobals "all" = some none)
    (z_bool : PySem.W.nsIn K mainGlobals "bool" = some none)
    (z_str : PySem.W.nsIn K mainGlobals "str" = some none)
    (z_ValueError : PySem.W.nsIn K mainGlobals "ValueError" = some none)
    (z_RuntimeError : PySem.W.nsIn K mainGlobals "RuntimeError" = some none)
    (zL : PySem.W.nsIn K mainGlobals "LETTERS" = some (some (.str "abcdefghijklmnopqrstuvwxyz" tL)))
    (zM : PySem.W.nsIn K mainGlobals "MOST_TEXT" = some (some (.int 12 tM)))
    (g1 : PySem.W.specialIn K (.builtin "object.__class__") "__get__" = some (some (.builtin "getset_descriptor.__get__")))
    (g2 : PySem.W.takesIn K (.builtin "object.__class__") = some true)
    (L0 : look K CI f0 [.type "ValueError", .type "Exception", .type "BaseException", .type "object"] "ValueError.__new__" ["value"] = true)
    (L1 : look K CU f1 [.type "RuntimeError", .type "Exception", .type "BaseException", .type "object"] "RuntimeError.__new__" [] = true)
    (kk : kits K CI CU CP C1 C2 C3 C4 = true) :
    ∃ fd : FuncData, (∀ (s : Shared) (v : Value), BindsTo s fd ⟨[v], []⟩ [("_law_script", v)]) ∧ ∀ base : Heap, K.In base → base.Ns mainGlobals mg → FnG l.prog w K mg base CX0 5 fa fd ["_law_script"] (spLaw K) := by
  have e := hfa.symm.trans (PySem.W.mg_of X G ad18)
  cases e
  have Fd0 := fun_mk (st := s_is_integer) ld0 cd0 kd0
  have bd0 := Fd0.binds (ps := ["value"]) fun _ _ _ _ _ _ us hl => match us, hl with | [_], _ => rfl
  have gd0 := PySem.W.mg_of X G ad0
  have Fd1 := fun_mk (st := s_is_letters) ld1 cd1 kd1
  have bd1 := Fd1.binds (ps := ["value"]) fun _ _ _ _ _ _ us hl => match us, hl with | [_], _ => rfl
  have gd1 := PySem.W.mg_of X G ad1
  have Fd2 := fun_mk (st := s_is_value) ld2 cd2 kd2
  have bd2 := Fd2.binds (ps := ["value"]) fun _ _ _ _ _ _ us hl => match us, hl with | [_], _ => rfl
  have gd2 := PySem.W.mg_of X G ad2
  have Fd3 := fun_mk (st := s_kind_of_value) ld3 cd3 kd3
  have bd3 := Fd3.binds (ps := ["value"]) fun _ _ _ _ _ _ us hl => match us, hl with | [_], _ => rfl
  have gd3 := PySem.W.mg_of X G ad3
  have Fd4 := fun_mk (st := s_sign_between) ld4 cd4 kd4
  have bd4 := Fd4.binds (ps := ["one", "other"]) fun _ _ _ _ _ _ us hl => match us, hl with | [_, _], _ => rfl
  have gd4 := PySem.W.mg_of X G ad4
  have Fd5 := fun_mk (st := s_sign_of) ld5 cd5 kd5
  have bd5 := Fd5.binds (ps := ["one", "other"]) fun _ _ _ _ _ _ us hl => match us, hl with | [_, _], _ => rfl
  have gd5 := PySem.W.mg_of X G ad5
  have Fd6 := fun_mk (st := s__law_rng) ld6 cd6 kd6
  have bd6 := Fd6.binds (ps := ["_law_script", "_law_k"]) fun _ _ _ _ _ _ us hl => match us, hl with | [_, _], _ => rfl
  have gd6 := PySem.W.mg_of X G ad6
  have Fd7 := fun_mk (st := s__law_draw) ld7 cd7 kd7
  have bd7 := Fd7.binds (ps := ["_law_rng_here", "_law_many"]) fun _ _ _ _ _ _ us hl => match us, hl with | [_, _], _ => rfl
  have gd7 := PySem.W.mg_of X G ad7
  have Fd8 := fun_mk (st := s__law_choice) ld8 cd8 kd8
  have bd8 := Fd8.binds (ps := ["_law_rng_here", "_law_options"]) fun _ _ _ _ _ _ us hl => match us, hl with | [_, _], _ => rfl
  have gd8 := PySem.W.mg_of X G ad8
  have Fd9 := fun_mk (st := s__law_number) ld9 cd9 kd9
  have bd9 := Fd9.binds (ps := ["_law_rng_here", "_law_near"]) fun _ _ _ _ _ _ us hl => match us, hl with | [_, _], _ => rfl
  have gd9 := PySem.W.mg_of X G ad9
  have Fd10 := fun_mk (st := s__law_text) ld10 cd10 kd10
  have bd10 := Fd10.binds (ps := ["_law_rng_here", "_law_near"]) fun _ _ _ _ _ _ us hl => match us, hl with | [_, _], _ => rfl
  have gd10 := PySem.W.mg_of X G ad10
  have Fd11 := fun_mk (st := s__law_odd) ld11 cd11 kd11
  have bd11 := Fd11.binds (ps := ["_law_rng_here"]) fun _ _ _ _ _ _ us hl => match us, hl with | [_], _ => rfl
  have gd11 := PySem.W.mg_of X G ad11
  have Fd12 := fun_mk (st := s__law_pair) ld12 cd12 kd12
  have bd12 := Fd12.binds (ps := ["_law_rng_here"]) fun _ _ _ _ _ _ us hl => match us, hl with | [_], _ => rfl
  have gd12 := PySem.W.mg_of X G ad12
  have Fd13 := fun_mk (st := s__law_kind) ld13 cd13 kd13
  have bd13 := Fd13.binds (ps := ["_law_thing"]) fun _ _ _ _ _ _ us hl => match us, hl with | [_], _ => rfl
  have gd13 := PySem.W.mg_of X G ad13
  have Fd14 := fun_mk (st := s__law_text_sign) ld14 cd14 kd14
  have bd14 := Fd14.binds (ps := ["_law_first", "_law_second"]) fun _ _ _ _ _ _ us hl => match us, hl with | [_, _], _ => rfl
  have gd14 := PySem.W.mg_of X G ad14
  have Fd15 := fun_mk (st := s__law_number_sign) ld15 cd15 kd15
  have bd15 := Fd15.binds (ps := ["_law_first", "_law_second"]) fun _ _ _ _ _ _ us hl => match us, hl with | [_, _], _ => rfl
  have gd15 := PySem.W.mg_of X G ad15
  have Fd16 := fun_mk (st := s__law_due) ld16 cd16 kd16
  have bd16 := Fd16.binds (ps := ["_law_first", "_law_second"]) fun _ _ _ _ _ _ us hl => match us, hl with | [_, _], _ => rfl
  have gd16 := PySem.W.mg_of X G ad16
  have Fd17 := fun_mk (st := s__law_told) ld17 cd17 kd17
  have bd17 := Fd17.binds (ps := ["_law_first", "_law_second", "_law_is_named"]) fun _ _ _ _ _ _ us hl => match us, hl with | [_, _, _], _ => rfl
  have gd17 := PySem.W.mg_of X G ad17
  have Fd18 := fun_mk (st := s_law) ld18 cd18 kd18
  have bd18 := Fd18.binds (ps := ["_law_script"]) fun _ _ _ _ _ _ us hl => match us, hl with | [_], _ => rfl
  have gd18 := PySem.W.mg_of X G ad18
  have T : Blt mg := ⟨PySem.W.mg_none_of X G z_len, PySem.W.mg_none_of X G z_max, PySem.W.mg_none_of X G z_min, PySem.W.mg_none_of X G z_abs, PySem.W.mg_none_of X G z_int, PySem.W.mg_none_of X G z_divmod, PySem.W.mg_none_of X G z_range, PySem.W.mg_none_of X G z_isinstance, PySem.W.mg_none_of X G z_repr, PySem.W.mg_none_of X G z_zip, PySem.W.mg_none_of X G z_all, PySem.W.mg_none_of X G z_bool, PySem.W.mg_none_of X G z_str, PySem.W.mg_none_of X G z_ValueError, PySem.W.mg_none_of X G z_RuntimeError⟩
  have U : Cst mg := ⟨⟨tL, PySem.W.mg_of X G zL⟩, ⟨tM, PySem.W.mg_of X G zM⟩⟩
  unfold kits at kk
  simp only [Bool.and_eq_true, decide_eq_true_eq] at kk
  obtain ⟨q1, q2, q3, q4, q5, q6, q7, q8⟩ := kk
  have gI := PySem.W.mg_of X G a0
  have gU := PySem.W.mg_of X G a1
  have Z : Cls3 K mg CI CU CP C1 C2 C3 C4 := ⟨PySem.W.mg_of X G aCP, PySem.W.mg_of X G aC1, PySem.W.mg_of X G aC2, PySem.W.mg_of X G aC3, PySem.W.mg_of X G aC4, (look_ok L0).xc g1 g2, (look_ok L1).xc g1 g2, q1, q2, q3, q4, q5, q6, q7, q8, (look_ok L0).no _ (by decide +kernel)⟩
  refine ⟨PySem.W.fnOf "law" "law" (defArgs s_law) (defBody s_law) (defScope s_law) .none kVd18 dcd18 pmd18 and18 cvd18 ctd18, fun s v => .of_eq rfl, fun base _ _ => ?_⟩
  have OI : Own l.prog w K mg base "InvalidValue" CI ["value"] := own0 (fun_mk (st := si0) l0 c0 k0) gI i0 (look_ok L0)
  have OU : Own l.prog w K mg base "Unlike" CU [] := own1 (fun_mk (st := si1) l1 c1 k1) gU i1 (look_ok L1)
  have Gval := ok_value (P := l.prog) (w := w) (base := base) Fd2 T U Fd0 bd0 gd0 Fd1 bd1 gd1
  have Gsign := ok_sign Fd5 OI OU Fd2 bd2 gd2 Gval Fd3 bd3 gd3 T Fd4 bd4 gd4
  have kb : ∀ (s : Shared) (ws : List Value), K.In s.heap → ws.length = 2 → BindsTo s _ ⟨[], (["one", "other"] : List Str).zip ws⟩ ((["one", "other"] : List Str).zip ws) := fun s ws _ hl => match ws, hl with | [_, _], _ => .of_eq (fd := PySem.W.fnOf "sign_of" "sign_of" (defArgs s_sign_of) (defBody s_sign_of) (defScope s_sign_of) .none kVd5 dcd5 pmd5 and5 cvd5 ctd5) rfl
  have Gtold := ok_told Fd17 T Z gI gU Fd5 bd5 gd5 Gsign kb
  have Gdue := ok_due (P := l.prog) (w := w) (base := base) Fd16 T Fd15 bd15 gd15 Fd14 bd14 gd14 Fd13 bd13 gd13
  have Gpair := ok_pair (P := l.prog) (w := w) (base := base) Fd12 T Fd7 bd7 gd7 Fd8 bd8 gd8 Fd9 bd9 gd9 Fd10 bd10 gd10 Fd11 bd11 gd11
  exact ok_law Fd18 T Fd6 bd6 gd6 Fd12 bd12 gd12 Gpair Fd17 bd17 gd17 Gtold Fd16 bd16 gd16 Gdue
end K12

set_option Elab.async false
set_option maxRecDepth 100000
set_option maxHeartbeats 0
section
open PySem PySem.W PyProof.Rows
open_top head_k12 for PySem.Challenge.rw_pairsigns_k12_signs_of_values
end
open PySem PySem.W PyProof.Rows
set_option maxRecDepth 100000 in
set_option maxHeartbeats 0 in
theorem PySem.Challenge.cw_pairsigns_k12_signs_of_values_holds : PySem.Challenge.rw_pairsigns_k12_signs_of_values.Holds :=
  head_k12 (by
  k_fill
  refine PSG.walkG (l := PySem.Challenge.rw_pairsigns_k12_signs_of_values) (m := 63) (n := 5) (x := "_law_script") (CT := fun _ => L2.CX0) (sp := fun w => K12.spLaw _) rfl (by decide) rfl ⟨rfl, by decide, by decide⟩ (fun w h Y => PySem.W.kIn_of Y) ?F (fun _ _ a ns hl _ hS => ⟨a, ns, rfl, hS, hl, fun _ => rfl⟩) (fun _ _ _ _ _ h => h)
  case F =>
    intro w mg fa h KX G hmg
    refine' K12.all_mk KX G hmg ?a0 ?i0 ?l0 ?c0 ?k0 ?a1 ?i1 ?l1 ?c1 ?k1 ?aCP ?aC1 ?aC2 ?aC3 ?aC4 ?ad0 ?ld0 ?cd0 ?kd0 ?ad1 ?ld1 ?cd1 ?kd1 ?ad2 ?ld2 ?cd2 ?kd2 ?ad3 ?ld3 ?cd3 ?kd3 ?ad4 ?ld4 ?cd4 ?kd4 ?ad5 ?ld5 ?cd5 ?kd5 ?ad6 ?ld6 ?cd6 ?kd6 ?ad7 ?ld7 ?cd7 ?kd7 ?ad8 ?ld8 ?cd8 ?kd8 ?ad9 ?ld9 ?cd9 ?kd9 ?ad10 ?ld10 ?cd10 ?kd10 ?ad11 ?ld11 ?cd11 ?kd11 ?ad12 ?ld12 ?cd12 ?kd12 ?ad13 ?ld13 ?cd13 ?kd13 ?ad14 ?ld14 ?cd14 ?kd14 ?ad15 ?ld15 ?cd15 ?kd15 ?ad16 ?ld16 ?cd16 ?kd16 ?ad17 ?ld17 ?cd17 ?kd17 ?ad18 ?ld18 ?cd18 ?kd18 ?z_len ?z_max ?z_min ?z_abs ?z_int ?z_divmod ?z_range ?z_isinstance ?z_repr ?z_zip ?z_all ?z_bool ?z_str ?z_ValueError ?z_RuntimeError ?zL ?zM ?g1 ?g2 ?L0 ?L1 ?kk
    (case a0 => k_is)
    (case i0 => k_is)
    (case l0 => k_is)
    (case c0 => k_is)
    (case k0 => k_is)
    (case a1 => k_is)
    (case i1 => k_is)
    (case l1 => k_is)
    (case c1 => k_is)
    (case k1 => k_is)
    (case aCP => k_is)
    (case aC1 => k_is)
    (case aC2 => k_is)
    (case aC3 => k_is)
    (case aC4 => k_is)
    (case ad0 => k_is)
    (case ld0 => k_is)
    (case cd0 => k_is)
    (case kd0 => k_is)
    (case ad1 => k_is)
    (case ld1 => k_is)
    (case cd1 => k_is)
    (case kd1 => k_is)
    (case ad2 => k_is)
    (case ld2 => k_is)
    (case cd2 => k_is)
    (case kd2 => k_is)
    (case ad3 => k_is)
    (case ld3 => k_is)
    (case cd3 => k_is)
    (case kd3 => k_is)
    (case ad4 => k_is)
    (case ld4 => k_is)
    (case cd4 => k_is)
    (case kd4 => k_is)
    (case ad5 => k_is)
    (case ld5 => k_is)
    (case cd5 => k_is)
    (case kd5 => k_is)
    (case ad6 => k_is)
    (case ld6 => k_is)
    (case cd6 => k_is)
    (case kd6 => k_is)
    (case ad7 => k_is)
    (case ld7 => k_is)
    (case cd7 => k_is)
    (case kd7 => k_is)
    (case ad8 => k_is)
    (case ld8 => k_is)
    (case cd8 => k_is)
    (case kd8 => k_is)
    (case ad9 => k_is)
    (case ld9 => k_is)
    (case cd9 => k_is)
    (case kd9 => k_is)
    (case ad10 => k_is)
    (case ld10 => k_is)
    (case cd10 => k_is)
    (case kd10 => k_is)
    (case ad11 => k_is)
    (case ld11 => k_is)
    (case cd11 => k_is)
    (case kd11 => k_is)
    (case ad12 => k_is)
    (case ld12 => k_is)
    (case cd12 => k_is)
    (case kd12 => k_is)
    (case ad13 => k_is)
    (case ld13 => k_is)
    (case cd13 => k_is)
    (case kd13 => k_is)
    (case ad14 => k_is)
    (case ld14 => k_is)
    (case cd14 => k_is)
    (case kd14 => k_is)
    (case ad15 => k_is)
    (case ld15 => k_is)
    (case cd15 => k_is)
    (case kd15 => k_is)
    (case ad16 => k_is)
    (case ld16 => k_is)
    (case cd16 => k_is)
    (case kd16 => k_is)
    (case ad17 => k_is)
    (case ld17 => k_is)
    (case cd17 => k_is)
    (case kd17 => k_is)
    (case ad18 => k_is)
    (case ld18 => k_is)
    (case cd18 => k_is)
    (case kd18 => k_is)
    (case z_len => k_is)
    (case z_max => k_is)
    (case z_min => k_is)
    (case z_abs => k_is)
    (case z_int => k_is)
    (case z_divmod => k_is)
    (case z_range => k_is)
    (case z_isinstance => k_is)
    (case z_repr => k_is)
    (case z_zip => k_is)
    (case z_all => k_is)
    (case z_bool => k_is)
    (case z_str => k_is)
    (case z_ValueError => k_is)
    (case z_RuntimeError => k_is)
    (case zL => k_is)
    (case zM => k_is)
    (case g1 => k_is)
    (case g2 => k_is)
    (case L0 => kernel_rfl)
    (case L1 => kernel_rfl)
    (case kk => kernel_rfl))
