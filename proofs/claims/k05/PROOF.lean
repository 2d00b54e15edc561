import PyProof.Rows.All
import Wide.All
import OpenK.AllK
import Wide.FinOn
import HandS.ForMost
import HandS.Strs
import HandS.TupSets
import HandS.SortInts
import HandS.IsInst
import HandS.TupLe
import HandS.TupAny
import HandS.DictComp
import HandS.Style
import HandS.Walk
import HandS.Conv
import KE.SortData
import KE.GoesMore
import HandS.Exc
import HandS.ExcOwn
import HandS.ExcInit
import HandS.ExcCtx
import HandS.ExcField
import HandS.TryOnly
import HandS.TryMany
import HandS.WordsExc
import KE.DataMinMax
import PyProof.Rows.RowBridgeK
import HandS.SetBool
import HandS.Lambda
import HandS.EndTab
import KE.KNestM
import HandS.TupMul
import HandS.Zip
import PyProof.TupleOfSeq
import KE.KExcIs
import HandS.ExcIs
import HandS.Hot
import HandS.Iter
import HandS.HotCalls
import HandS.Comp
import HandS.Deep
import PyProof.SetRoads
import HandS.SetFor
import KE.KDictZip
import HandS.Zip0
import PySem.Challenge.RW_fewtraps_k05_cuts_and_missed_walks
set_option Elab.async false
set_option linter.all false
set_option maxRecDepth 100000
set_option maxHeartbeats 4000000
/-! The layer's additions: repr of data, calls of defs that ask for it, sets of ints, a dict comprehension given to a name. -/
namespace Ft
open PySem PySem.Spec PyProof.Rows L2

/-! ### repr of data -/
mutual
theorem dp_plain {K : PySem.W.Frag} {H : Hp} : ∀ (d : PyData) (v : V), Dp K H v d → d.hasDict = false
  | .none, _, _ => by simp only [PyData.hasDict]
  | .bool _, _, _ => by simp only [PyData.hasDict]
  | .int _, _, _ => by simp only [PyData.hasDict]
  | .str _, _, _ => by simp only [PyData.hasDict]
  | .list ds, _, h => by
    cases h with
    | lst _ a => simp only [PyData.hasDict]; exact dp_plains ds _ a
  | .tuple ds, _, h => by
    cases h with
    | tup _ a => simp only [PyData.hasDict]; exact dp_plains ds _ a
  | .dict _, _, h => by cases h
theorem dp_plains {K : PySem.W.Frag} {H : Hp} : ∀ (ds : List PyData) (vs : List V), DpAll K H vs ds → PyData.hasDictAll ds = false
  | [], _, _ => by simp only [PyData.hasDictAll]
  | d :: ds, _, h => by
    cases h with
    | cons h1 h2 => simp only [PyData.hasDictAll, dp_plain d _ h1, dp_plains ds _ h2, Bool.or_self]
end

/-- data that repr shows without meeting a bound -/
structure Shows (d : PyData) : Prop where
  sh : d.showable = true
  lv : d.leavesShort 13 = true
  wt : d.weight ≤ 2 ^ 20
  dp : d.depth ≤ 60

def rRepr (K : PySem.W.Frag) : List V → Hp → VK → Prop := fun xs H Q => ∃ x d, xs = [x] ∧ Dp K H x d ∧ Shows d ∧ Q (.str d.shown) H
theorem cr_repr {X : Cx} (hg : X.A.guards = some []) (hu : X.A.units + 64 < cLine) : CallR X (.builtin "repr") (rRepr X.K) := by
  intro pins s σ H xs us Q I r h
  obtain ⟨x, d, rfl, hd, S, q⟩ := h
  obtain ⟨u, rfl, rx⟩ := vals1 r
  have fits := PyData.shown_fits (by decide) (by decide) S.lv S.wt
  cases hd with
  | non =>
    cases rx
    simp only [PyData.shown] at q
    exact PySem.P.repr_of_none ⟨.str _, H, I.tok _, ⟨_, rfl⟩, q⟩
  | bl b =>
    cases rx
    simp only [PyData.shown] at q
    exact PySem.P.repr_of_bool ⟨.str _, H, I.tok _, ⟨_, rfl⟩, q⟩
  | int i =>
    obtain ⟨t, rfl⟩ := rx
    have hs := S.sh
    simp only [PyData.showable, decide_eq_true_eq] at hs
    simp only [PyData.shown] at q
    exact PySem.P.repr_of_int hs ⟨.str _, H, I.tok _, ⟨_, rfl⟩, q⟩
  | str z =>
    obtain ⟨t, rfl⟩ := rx
    simp only [PyData.shown] at q fits
    exact PySem.P.repr_of_str ⟨.str _, H, I.tok _, ⟨_, rfl⟩, q⟩ fits
  | lst h1 h2 =>
    obtain ⟨as, rd⟩ := Dp.reads I _ _ u (.lst h1 h2) rx
    cases rx
    exact repr_of_reads' rd S.sh (PyData.noDict_hsm (dp_plain _ _ (Dp.lst h1 h2))) hg (by have := S.dp; omega) (fun _ _ e => e) (fun h' v tk k => ⟨.str _, H, I.kept k, ⟨_, rfl⟩, q⟩) fits
  | tup h1 h2 =>
    obtain ⟨as, rd⟩ := Dp.reads I _ _ u (.tup h1 h2) rx
    cases rx
    exact repr_of_reads' rd S.sh (PyData.noDict_hsm (dp_plain _ _ (Dp.tup h1 h2))) hg (by have := S.dp; omega) (fun _ _ e => e) (fun h' v tk k => ⟨.str _, H, I.kept k, ⟨_, rfl⟩, q⟩) fits
end Ft

set_option Elab.async false
set_option linter.all false
set_option maxRecDepth 100000
set_option maxHeartbeats 4000000
namespace Ft
open PySem PySem.Spec PyProof.Rows L2
/-! ### defs that are called where no repr is under way -/
structure FnG (P : Program) (w : World) (K : PySem.W.Frag) (mg : Str → Option Value) (base : Heap) (k : Nat) (f : Addr) (fd : FuncData) (ps : List Str) (sp : Sp) : Prop where
  many : ∀ vs H Q E, sp vs H Q E → vs.length = ps.length
  goes : ∀ (A : Around) (out : List Env) (s : Shared) (H : Hp) (args : Args) (us : List Value) (vs : List V) (Q : VK) (E : XK), A.guards = some [] → Room k A → Env0 P w K mg base A out s H →
    BindsTo s fd args (ps.zip us) → Vals vs us → sp vs H Q E → codeAny (model P w) A (.call (.ref f) args) (CR CX0 out P w H s Q E) s
section
variable {P : Program} {w : World} {K : PySem.W.Frag} {mg : Str → Option Value} {base : Heap}
/-- by its body -/
theorem gfun {x : Str} {st : Stmt} {f : Addr} {fd : FuncData} {N ps : List Str} {k : Nat} {sp : Sp} (F : L2.Fun K x x st f fd) (S : FnScope N ps (L2.defScope st)) (many : ∀ vs H Q E, sp vs H Q E → vs.length = ps.length)
    (body : ∀ (cdv : Value) (A : Around) (out : List Env) (s : Shared) (H : Hp) (vs : List V) (Q : VK) (E : XK), A.guards = some [] → Room k (A.deeper (envOfC x (L2.defScope st) s.heap.objs.size f cdv)) → sp vs H Q E →
      ∃ t, PSs (cxOf L2.CX0 P w K mg base N x (L2.defScope st) f cdv A out s H E).nox (L2.defBody st) t ∧ t { nx := fun _ H' => Q .non H', rt := Q } (start N vs) H) :
    FnG P w K mg base (k + 1) f fd ps sp := by
  obtain ⟨oc, od, kV, doc, pm, an, cdv, ct, osl, rfl, lk, hcd⟩ := F.ex
  refine ⟨many, ?_⟩
  intro A out s H args us vs Q E hg hr e0 hb r hsp
  have hin : K.In s.heap := e0.mod.kin.keeps (fun b o q => (e0.bs b o q).1)
  have nolim : s.heap.NoLimit := e0.mod.nolimit.keeps (fun b o q => (e0.bs b o q).1)
  have kinds : ∀ y ∈ ps.zip us, (L2.defScope st).names.lookup y.1 = some .local ∨ ((L2.defScope st).names.lookup y.1 = some .cell ∧ ((cellsFrom (s.heap.objs.size + 1) (L2.defScope st).names []).lookup y.1).isSome = true) := by
    intro y hy
    cases S.par y.1 (List.of_mem_zip (a := y.1) (b := y.2) hy).1 with
    | inl q => exact .inl q
    | inr q => exact .inr ⟨q, PySem.W.cellsFrom_some _ _ _ (.inl q)⟩
  refine codeAny_call_function hr.depth (hin _ _ lk) rfl S.co S.gen rfl (PySem.W.codeRec_of hin hcd) (hb _ _ _ _ ?_)
  refine wpAny_newFunctionEnv_cells S.kind kinds fun env he s1 z => ?_
  subst he
  refine ⟨nolim.keeps z.toInCall.keep, codeAny_func ?_⟩
  obtain ⟨t, ht, hq⟩ := body cdv A out s H vs Q E hg (hr.deeper _) hsp
  have I := inv_start (CX := L2.CX0) (E := E) (f := f) (cd := cdv) (qual := x) S hr.hd e0 (many _ _ _ _ hsp) r z
  refine wpAny_mono (ht.nox.run [] s1 (start N vs) H _ I hq) ?_ (fun e s' hs => hs)
  intro fl s' hs
  have ends : ∀ {σ' : L2.St} {H' : Hp} {v : V} {u : Value}, Inv (cxOf L2.CX0 P w K mg base N x (L2.defScope st) f cdv A out s H E) [] σ' H' s' → RelV v u → Q v H' → CE out P w H s Q u s' := by
    intro σ' H' v u J rv q
    exact ⟨v, H', J.os, J.bare, J.base, J.hok, rv, q⟩
  cases fl with
  | ret u => exact let ⟨v, σ', H', J, rv, q⟩ := hs; ends J rv q
  | next => exact let ⟨σ', H', J, q⟩ := hs; ends (v := V.non) (u := Value.none) J rfl q
  | brk => exact let ⟨_, _, _, q⟩ := hs; q.elim
  | cont => exact let ⟨_, _, _, q⟩ := hs; q.elim
end
/-- called by its name -/
structure CalG (P : Program) (w : World) (K : PySem.W.Frag) (mg : Str → Option Value) (base : Heap) (k : Nat) (x : Str) (sp : Sp) : Prop where
  ex : ∃ (f : Addr) (fd : FuncData) (ps : List Str), FnG P w K mg base k f fd ps sp ∧ mg x = some (.ref f) ∧ PySem.W.keepIn K (.ref f) = true ∧ Binds K fd ps []
section
variable {X : Cx} {k j : Nat} {x : Str} {sp : Sp} {p pos : Pos} {e : Expr} {es : List Expr} {t : TA}
theorem pe_g (c : CalG X.prog X.w X.K X.mg X.base k x sp) (hgd : X.A.guards = some []) (hr : Room j X.A) (hk : k ≤ j) (hg : Gl X x) (ha : PA X (e :: es) t)
    (hdb : (x == ("__debug__" : Str)) = false := by decide) (he : starEach (e :: es) X.env = (false, eval e X.env) :: starEach es X.env := by rfl) (hpl : (backTo pos (starEach es X.env)).any (·.1) = false := by rfl) :
    PE X (.Call (.Name x p) (e :: es) [] pos) (tCall sp [] L2.E0 t) := by
  obtain ⟨f, fd, ps, F, hm, kp, b⟩ := c.ex
  refine ⟨fun pins s σ H Q I h => ?_⟩
  refine wpAny_Call_Name_kw (ld_glob I hg hm ?_ hdb)
  refine PySem.W.callWith_K (h₀ := X.base) I.ok.mod.kin kp (thn (ha.run pos pins s σ H _ I h) fun us s1 ⟨vs, H1, I1, r, q⟩ => ⟨I1.kIn, ?_⟩) he hpl
  have q2 : sp vs H1 Q L2.E0 := by
    have z : sp (vs ++ []) H1 Q L2.E0 := q
    rw [List.append_nil] at z
    exact z
  have hl : (us ++ []).length = ps.length := by rw [List.append_nil, ← r.length]; exact F.many _ _ _ _ q2
  have hb := b s1 us I1.kIn hl
  rw [List.append_nil] at hb
  refine wpAny_call (codeAny_mono (F.goes X.A X.stack s1 H1 ⟨us, []⟩ us vs Q L2.E0 hgd (hr.mono hk) I1.env0 hb r q2) ?_)
  intro o s' hq
  cases o with
  | error e => exact hq.elim
  | ok fl =>
    cases fl with
    | ret u => exact I1.after hq
    | next => exact hq.elim
    | brk => exact hq.elim
    | cont => exact hq.elim
end
/-! ### the end of a law row whose def asks for repr -/
theorem glaw {P : Program} {w : World} {K : PySem.W.Frag} {mg mb : Str → Option Value} {k : Nat} {fa a : Addr} {fd : FuncData} {x : Str} {sp : Sp} {s₁ : Shared} {vs : List Value} {ns : List Int}
    (KX : K.In s₁.heap) (hns : s₁.heap.Ns mainGlobals mg) (hb : s₁.heap.Ns builtinsNs mb) (hbb : ∀ x : Str, x ≠ "__name__" → mb x = bootBuiltins x) (hlim : s₁.heap.NoLimit) (hg : s₁.gens = #[])
    (ha : s₁.heap.get? a = some { cls := .type "list", data := .seq vs.toArray }) (hi : IntsAre vs ns) (hl : ns.length ≤ sizeLine) (hr : Room k callerA)
    (F : ∀ base : Heap, K.In base → base.Ns mainGlobals mg → FnG P w K mg base k fa fd [x] sp) (hbind : ∀ (s : Shared) (u : Value), BindsTo s fd ⟨[u], []⟩ [(x, u)])
    (hsp : ∀ H : Hp, Only H → SqL K H a (ns.map V.int) → sp [.ref a] H (fun v _ => v = .bl true) fun _ _ _ => False) :
    codeAny (model P w) callerA (.call (.ref fa) ⟨[.ref a], []⟩) (fun r s' => r = .ok (.ret (.bool true)) ∧ OldK s₁.heap s'.heap ∧ s'.os = s₁.os ∧ AllBare s'.gens) s₁ := by
  have rv := vals_ints hi
  have heart : ∀ H : Hp, Only H → SqL K H a (ns.map V.int) → HOk P w H s₁.heap → (∀ b, H b ≠ none → b = a) → (H a ≠ none → K.lookup a = none) →
      codeAny (model P w) callerA (.call (.ref fa) ⟨[.ref a], []⟩) (fun r s' => r = .ok (.ret (.bool true)) ∧ OldK s₁.heap s'.heap ∧ s'.os = s₁.os ∧ AllBare s'.gens) s₁ := by
    intro H only hS hok hA hK
    have same : ∀ {b : Addr} {u : HO}, H b = some u → b = a := fun {b u} q => hA b (by rw [q]; exact fun z => nomatch z)
    have stays : ∀ {b : Addr} {o : Obj}, s₁.heap.get? b = some o → H b = none → (hidT s₁.heap H).get? b = some o := fun q n => hidT_get q n
    have dictOff : ∀ {b : Addr} {o : Obj} {es : Array DictEntry} {ep : Nat}, s₁.heap.get? b = some o → o.data = .dict es ep → H b = none := by
      intro b o es ep q d
      cases z : H b with
      | none => rfl
      | some u =>
        have hba := same z
        subst hba
        have eo := Option.some.inj (ha.symm.trans q)
        rw [← eo] at d
        exact nomatch d
    have nsIn : ∀ {b : Addr} {m : Str → Option Value}, s₁.heap.Ns b m → (hidT s₁.heap H).Ns b m := fun ⟨o, es, ep, q, d, r⟩ => ⟨o, es, ep, stays q (dictOff q d), d, r⟩
    have kIn : K.In (hidT s₁.heap H) := by
      intro b o q
      refine stays (KX b o q) ?_
      cases z : H b with
      | none => rfl
      | some u =>
        have hba := same z
        subst hba
        have := hK (by rw [z]; exact fun y => nomatch y)
        rw [this] at q
        exact nomatch q
    have hM : Mod K mg (hidT s₁.heap H) := by
      obtain ⟨mc, l1, l2⟩ := hlim
      exact ⟨kIn, nsIn hns, ⟨mb, nsIn hb, hbb⟩, ⟨mc, nsIn l1, l2⟩⟩
    have e0 : Env0 P w K mg (hidT s₁.heap H) callerA [] s₁ H :=
      ⟨rfl, hM, fun b o q => of_hidT q, Nat.le_of_eq (hidT_size _ _), trivial, fun b hb => absurd (show b ∈ ([] : List Addr) from hb) List.not_mem_nil, hok, .of_eq hg⟩
    refine codeAny_mono ((F _ kIn (nsIn hns)).goes callerA [] s₁ H ⟨[.ref a], []⟩ [.ref a] [.ref a] _ _ rfl hr e0 (hbind s₁ (.ref a)) (.cons rfl .nil) (hsp H only hS)) ?_
    intro r s' h
    cases r with
    | error e => exact h.elim
    | ok fl =>
      cases fl with
      | next => exact h.elim
      | brk => exact h.elim
      | cont => exact h.elim
      | ret u =>
        obtain ⟨v, H', os, bare, un, hok', rr, q⟩ := h
        have q' : v = V.bl true := q
        subst q'
        have eu : u = Value.bool true := rr
        subst eu
        refine ⟨rfl, OldK.of_keep ?_, os, bare⟩
        intro b o q
        cases z : H b with
        | none => exact un.keep b o q z (fun y => absurd (show b ∈ ([] : List Addr) from y) List.not_mem_nil) (fun y => absurd y List.not_mem_nil)
        | some u =>
          rcases only b with y | ⟨ob, xs, y⟩
          · exact nomatch (z.symm.trans y)
          · obtain ⟨e1, _⟩ := hok b _ y
            obtain ⟨e2, _⟩ := hok' b _ (un.frzs b ob _ y)
            have eo := Option.some.inj (q.symm.trans e1)
            rw [eo]
            exact e2
  cases hk : K.lookup a with
  | some o =>
    have eo := Option.some.inj ((KX a o hk).symm.trans ha)
    subst eo
    exact heart (fun _ => none) (fun _ => .inl rfl) (.inr ⟨_, vs.toArray, _, hk, rfl, rfl, rfl, by rw [List.size_toArray, hi.length]; exact hl, by simpa using rv⟩) (fun b u z => nomatch (show (none : Option HO) = some u from z)) (fun b z => absurd rfl z) (fun z => absurd rfl z)
  | none =>
    have there : ∀ b u, (if b = a then some (HO.frz { cls := .type "list", data := .seq vs.toArray } (.lst (ns.map V.int))) else none) = some u → b = a ∧ u = HO.frz { cls := .type "list", data := .seq vs.toArray } (.lst (ns.map V.int)) := by
      intro b u z
      by_cases hba : b = a
      · rw [if_pos hba] at z
        exact ⟨hba, (Option.some.inj z).symm⟩
      · rw [if_neg hba] at z
        exact nomatch z
    refine heart (fun b => if b = a then some (.frz { cls := .type "list", data := .seq vs.toArray } (.lst (ns.map V.int))) else none) ?_ (.inl (.inr ⟨{ cls := .type "list", data := .seq vs.toArray }, if_pos rfl⟩)) ?_ ?_ (fun _ => hk)
    · intro b
      by_cases hba : b = a
      · exact .inr ⟨_, _, if_pos hba⟩
      · exact .inl (if_neg hba)
    · intro b u z
      obtain ⟨e1, e2⟩ := there b u z
      subst e1
      subst e2
      exact ⟨ha, by rw [List.length_map]; exact hl, vs, _, rv, ha⟩
    · intro b z
      by_cases hba : b = a
      · exact hba
      · exact absurd (if_neg hba) z
theorem gwalk {l : PySem.W.OpenLaw} {n k : Nat} {q : Program} {loose : List Str} {XP : (Str → Option Value) → Heap → Prop} {YP : World → Heap → Prop} {d : DefRec} {K : Params → PySem.W.Frag} {sp : World → Sp} {x : Str}
    (hn : l.most = some n) (hn2 : n ≤ sizeLine) (hdf : d.params.defaults = []) (hr : Room k callerA) (hY : ∀ (w : World) (h : Heap), YP w h → (K w.params).In h)
    (F : ∀ (w : World) (mg : Str → Option Value) (fa : Addr) (h : Heap), (K w.params).In h → h.Ns mainGlobals mg → mg d.name = some (.ref fa) →
      ∃ fd : FuncData, (∀ (s : Shared) (u : Value), BindsTo s fd ⟨[u], []⟩ [(x, u)]) ∧ ∀ base : Heap, (K w.params).In base → base.Ns mainGlobals mg → FnG l.prog w (K w.params) mg base k fa fd [x] (sp w))
    (hsp : ∀ (w : World) (H : Hp) (a : Addr) (ns : List Int), ns.length ≤ n → Only H → SqL (K w.params) H a (ns.map V.int) → sp w [.ref a] H (fun v _ => v = .bl true) fun _ _ _ => False) :
    PySem.W.WalkO q loose XP YP l.row.toRowW d [] (fun f vs => PySem.call f vs) := by
  refine Att.attach_call hn hdf ?_
  intro w s₀ s₁ mg mb fa o pm cd doc a vs ns G Y ho hd hcd hmg hobj hints hlen hg
  have KX := hY w _ Y
  obtain ⟨fd, hb, hF⟩ := F w mg fa _ KX G.T.g hmg
  exact glaw KX G.T.g G.T.b G.T.builtins G.T.nolimit hg hobj hints (Nat.le_trans hlen hn2) hr hF hb (fun H only hS => hsp w H a ns hlen only hS)
end Ft

set_option Elab.async false
set_option linter.all false
set_option maxRecDepth 100000
set_option maxHeartbeats 4000000
namespace Ft
open PySem PySem.Spec PyProof.Rows L2
/-! ### set(xs), xs a list of ints -/
/-- an empty set, as it is made -/
abbrev bareSet (w : World) : Obj := { cls := .type "set", dict := none, data := .set #[] 0 (.fresh 0 0 (!w.params.followText "set-order")) }
section
variable {P : Program} {w : World} {A : Around} {E : Value → Shared → Prop} {s : Shared}
set_option maxRecDepth 100000 in
theorem set_of_list {l : Addr} {its : Array Value} (ns : List Int) {Q : Value → Shared → Prop} (calm : A.handled = none) (isl : s.heap.IsList l its) (pIs : IntsAre its.toList ns) (few : ns.length + 1 < scanBound)
    (done : ∀ (h' : Heap) (tk c : Nat), SetR w h' s.heap.objs.size (fun j => decide (j ∈ ns)) c → c ≤ ns.length → (∀ b o, s.heap.get? b = some o → h'.get? b = some o) → Q (.ref s.heap.objs.size) { s with heap := h', toks := tk }) :
    wpAny (model P w) A (call (.type "set") [.ref l]) Q E s := by
  have size : its.size = ns.length := by rw [← IntsAre.length pIs, Array.length_toList]
  obtain ⟨c, tl, way⟩ := F.called_set.mro
  have made := F.called_set.made
  have under := F.called_set.sub
  refine wpAny_call (codeAny_of_tree ?_)
  show wpAny _ _ (callAny (.type "set") _) _ _ _
  refine wpAny_pure (And.intro (Code.quiet_builtin _ (by decide +kernel)) (codeAny_builtin F.entry_type_call ?_))
  rw [Around.under_plain (weight_type_call_type "set" [Value.ref l] []) rfl]
  have k1 := F.called_set.notType
  have k2 := F.called_set.canCreate
  have k3 := F.typeCall_set_1 (Value.ref l)
  repeat (any_goals (first | assumption | wp_step))
  refine codeAny_mono (code_set_led1 (.ref l) (E := E) (Q₁ := fun obj t => obj = .ref s.heap.objs.size ∧ t = { s with heap := s.heap.push (bareSet w) }) ⟨rfl, rfl⟩) fun r t ht => ?_
  match r, ht with
  | .error e, ht => exact ht
  | .ok .next, ht => exact ht
  | .ok .brk, ht => exact ht
  | .ok .cont, ht => exact ht
  | .ok (.ret obj), ht =>
    obtain ⟨e1, e2⟩ := ht
    subst e1 e2
    have atS : (s.heap.push (bareSet w)).get? s.heap.objs.size = some (bareSet w) := Heap.get?_push_size _ rfl
    have tyS : Shared.TypeIs { s with heap := s.heap.push (bareSet w) } (.ref s.heap.objs.size) "set" := ⟨_, atS, rfl⟩
    have look := F.called_set.init.lookup
    have binds := F.called_set.init.bind (.ref s.heap.objs.size)
    repeat (any_goals (first | assumption | wp_step))
    refine codeAny_mono (codeAny_call_builtin (R := wants (fun r u => r = .none ∧ ∃ h' tk c, u = { s with heap := h', toks := tk } ∧ SetR w h' s.heap.objs.size (fun j => decide (j ∈ ns)) c ∧ c ≤ ns.length ∧ (∀ b o, s.heap.get? b = some o → h'.get? b = some o)) E)
      F.called_set.init.plain F.entry_set_init (check_set_init_1 tyS ?_)) fun r2 u hu => ?_
    · obtain ⟨⟨oc, od, dat, osl⟩, hol, hcl, nl, hdl⟩ := isl
      simp only at hcl hdl
      subst hcl hdl
      have atL : (s.heap.push (bareSet w)).get? l = some { cls := .type "list", dict := od, data := .seq its nl, slots := osl } := Heap.get?_push_of_some _ hol
      have q1 := F.sub_list_set
      have q2 := F.sub_list_frozenset
      have q3 : (Value.type "list" == Value.type "dict") = false := by decide
      have isl1 : (s.heap.push (bareSet w)).IsList l its := ⟨_, atL, rfl, nl, rfl⟩
      unfold Builtin.«set.__init__» noKeywords Builtin.Frozenset.updateFrom
      generalize hit : pyIter = it
      wp_walk
      subst hit
      refine wpAny_pyIter_list isl1 ?_
      refine wpAny_bind (wpAny_runValue ?_)
      have below : l < s.heap.objs.size := Heap.lt_size hol
      have calm3 : A.in1.in1.in1.handled = none := by simp [calm]
      have apart : l ≠ (s.heap.push (bareSet w)).objs.size := by
        rw [Heap.size_push]
        exact Nat.ne_of_lt (Nat.lt_succ_of_lt below)
      have apartS : s.heap.objs.size ∉ [(s.heap.push (bareSet w)).objs.size, l] := by
        rw [Heap.size_push]
        simp only [List.mem_cons, List.mem_singleton, List.not_mem_nil, or_false, not_or]
        exact And.intro (Nat.ne_of_lt (Nat.lt_succ_self _)) (Nat.ne_of_gt below)
      have vals : ∀ (i : Nat) (v : Value), its[i]? = some v → ∃ k t, ns[i]? = some k ∧ v = .int k t := by
        intro i v hv
        have hi : i < ns.length := by
          rw [← size]
          exact (Array.getElem?_eq_some_iff.mp hv).1
        obtain ⟨t, e⟩ := PyProof.Rows.IntsAre.int_at pIs i v (by rw [Array.getElem?_toList]; exact hv)
        refine ⟨ns[i], t, List.getElem?_eq_getElem hi, ?_⟩
        rw [e, List.getD_eq_getElem?_getD, List.getElem?_eq_getElem hi]
        rfl
      refine set_update_ints ((Walks.list calm3 _ l apart its).toS) s.heap.objs.size apartS ns size few vals (its.size - 0) 0 _ (by omega) (Nat.zero_le _) ⟨⟨_, Heap.get?_push_size _ rfl, rfl, rfl⟩, isl1.push _⟩ ?start ?ends
      case start =>
        exact ⟨0, Nat.le_refl 0, setR_new_at (Heap.get?_push_of_some _ atS)⟩
      case ends =>
        intro v c' hm hc' hS'
        obtain ⟨h', g2, d', tk', os'⟩ := v
        have eg : g2 = s.gens := hm.gens
        have ed : d' = s.drawn := hm.drawn
        have eo : os' = s.os := hm.os
        subst eg ed eo
        show wpAny _ _ _ _ _ _
        refine wpAny_pure ?_
        show wpAny _ _ (ret Value.none) _ _ _
        rw [size] at hc'
        refine wpAny_pure ⟨rfl, h', tk', c', rfl, hS', hc', ?_⟩
        intro b o e
        have hb0 : b < s.heap.objs.size := Heap.lt_size e
        refine hm.heap b o ?_ (Heap.get?_push_of_some _ (Heap.get?_push_of_some _ e))
        rw [Heap.size_push]
        simp only [List.mem_cons, List.mem_singleton, List.not_mem_nil, or_false, not_or]
        exact And.intro (Nat.ne_of_lt hb0) (Nat.ne_of_lt (Nat.lt_succ_of_lt hb0))
    · match r2, hu with
      | .error e, hu => exact hu
      | .ok .next, hu => exact hu
      | .ok .brk, hu => exact hu
      | .ok .cont, hu => exact hu
      | .ok (.ret u0), hu =>
        obtain ⟨e1, h', tk, c2, e2, hS, hc2, hk⟩ := hu
        subst e1 e2
        repeat (any_goals (first | assumption | wp_step))
        exact done h' tk c2 hS hc2 hk
/-- set(xs) over the layer: a list or a tuple of ints -/
def rSetI (K : PySem.W.Frag) (w : World) : List V → Hp → VK → Prop := fun xs H Q => ∃ (l : Addr) (ns : List Int), xs = [V.ref l] ∧ (SqL K H l (ns.map V.int) ∨ SqT K H l (ns.map V.int)) ∧ ns.length ≤ 1000 ∧
  ∀ (p : Addr) (n : Nat), H p = none → n ≤ ns.length → Q (.ref p) (upd H p (SetO w p (fun j => decide (j ∈ ns)) n))
theorem cr_setI {X : Cx} (hc : X.calm = true) : CallR X (.type "set") (rSetI X.K X.w) := by
  intro pins s σ H xs us Q I r h
  obtain ⟨l, ns, rfl, hl, few, q⟩ := h
  have few1 : ns.length + 1 < scanBound := Nat.lt_of_le_of_lt (Nat.succ_le_succ few) (by decide)
  have free : H s.heap.objs.size = none := I.hok.fresh (Nat.le_refl _)
  rw [Vals.ref1 r]
  rcases hl with hl | hl
  · obtain ⟨its, rv, pl, hz⟩ := I.list hl
    refine set_of_list ns (I.ok.hd hc) pl.isList (by simpa using rv.ints) few1 fun h' tk c hS hc2 hk => ?_
    exact ⟨.ref _, upd H s.heap.objs.size (SetO X.w s.heap.objs.size (fun j => decide (j ∈ ns)) c), I.laid (t' := tk) hk (Nat.le_refl _) (setO_new hS), rfl, q _ _ free hc2⟩
  · obtain ⟨its, rv, pt, hz⟩ := I.tuple hl
    have pt2 : s.heap.IsTuple l its.toArray := pt
    refine call_set_tupI ns (I.ok.hd hc) pt2 (by simpa using ints_of_vals rv) few1 fun h' tk c hS hc2 hk => ?_
    exact ⟨.ref _, upd H s.heap.objs.size (SetO X.w s.heap.objs.size (fun j => decide (j ∈ ns)) c), I.laid (t' := tk) hk (Nat.le_refl _) (setO_new hS), rfl, q _ _ free hc2⟩
end
end Ft

set_option Elab.async false
set_option linter.all false
set_option maxRecDepth 100000
set_option maxHeartbeats 4000000
namespace Ft
open PySem PySem.Spec PyProof.Rows L2
/-! ### sorted of tuples of ints, whatever their lengths -/
abbrev Row := Addr × List Int
def leR (p q : Row) : Bool := decide (p.2 ≤ q.2)
def encR (p : Row) : PyData := .tuple (p.2.map .int)
theorem leR_is : PySem.W.dataLe false encR = leR := by
  funext p q
  show (!PySem.W.dataLt (.tuple (q.2.map .int)) (.tuple (p.2.map .int))) = decide (p.2 ≤ q.2)
  rw [PySem.W.dataLt_tuple]
  have e := PySem.W.dataLt_ints q.2 p.2
  unfold PySem.W.rowLt at e
  rw [e]
  by_cases h : q.2 < p.2
  · have h' : ¬ p.2 ≤ q.2 := fun r => List.not_lt.mpr r h
    simp [h, h']
  · have h' : p.2 ≤ q.2 := List.not_lt.mp h
    simp [h, h']
theorem leR_trans (a b c : Row) (h1 : leR a b = true) (h2 : leR b c = true) : leR a c = true :=
  decide_eq_true (List.le_trans (of_decide_eq_true h1) (of_decide_eq_true h2))
theorem leR_total (a b : Row) : (leR a b || leR b a) = true := by
  rcases List.le_total a.2 b.2 with h | h
  · simp [leR, h]
  · simp [leR, h]
theorem rows_alike (L : List Row) : PySem.W.AllAlike (L.map encR) :=
  PySem.W.AllAlike.of fun b b' => by
    show PySem.W.alike (.tuple (b.2.map .int)) (.tuple (b'.2.map .int)) = true
    simp only [PySem.W.alike]
    exact PySem.W.alike_ints _ _
theorem rows_sortable {L : List Row} (h : ∀ p ∈ L, p.2 ≠ []) : PySem.W.Sortable (L.map encR) := .inl fun d hd => by
  obtain ⟨b, hb, rfl⟩ := List.mem_map.mp hd
  have := h b hb
  show ∃ x r, PyData.tuple (b.2.map .int) = .tuple (x :: r)
  cases e : b.2 with
  | nil => exact absurd e this
  | cons x r => exact ⟨.int x, r.map .int, rfl⟩
theorem rows_deep {A : Around} {k : Nat} {L : List Row} (hu : A.units + k + 1 < cLine) : ∀ b, b ∈ L → A.units + k + (encR b).depth < cLine := by
  intro b _
  have e : (encR b).depth = 1 := by
    show PyData.depth (.tuple (b.2.map .int)) = 1
    simp only [PyData.depth, PySem.W.depth_ints]
  rw [e]
  exact hu
theorem rows_each : ∀ (L : List Row), PySem.W.EachIs (fun v (p : Row) => v = Value.ref p.1) (L.map fun p => Value.ref p.1) L
  | [] => .nil
  | p :: L => .cons rfl (rows_each L)
theorem rows_back : ∀ {vs : List Value} {L : List Row}, PySem.W.EachIs (fun v (p : Row) => v = Value.ref p.1) vs L → vs = L.map fun p => Value.ref p.1
  | _, _, .nil => rfl
  | _, _, .cons h t => by rw [h, rows_back t]; rfl
section
variable {X : Cx} {pins : List (Addr × Obj)} {σ : L2.St} {H : Hp} {s : Shared}
theorem dpAll_ints {K : PySem.W.Frag} {H : Hp} : ∀ ns : List Int, DpAll K H (ns.map V.int) (ns.map PyData.int)
  | [] => .nil
  | n :: ns => .cons (.int n) (dpAll_ints ns)
theorem rows_read (I : Inv X pins σ H s) : ∀ (L : List Row), (∀ p ∈ L, SqT X.K H p.1 (p.2.map V.int)) → PySem.W.EachIs (fun v b => ∃ as, Reads s.heap v (encR b) as) (L.map fun p => Value.ref p.1) L
  | [], _ => .nil
  | p :: L, h => .cons (Dp.reads I (encR p) (.ref p.1) (.ref p.1) (.tup (h p List.mem_cons_self) (dpAll_ints p.2)) rfl) (rows_read I L fun q hq => h q (List.mem_cons_of_mem _ hq))
end
/-- sorted(xs), xs a list of tuples of ints -/
def rSortedR (K : PySem.W.Frag) : List V → Hp → VK → Prop := fun vs H Q => ∃ (a : Addr) (L : List Row), vs = [V.ref a] ∧ SqL K H a (L.map fun p => V.ref p.1) ∧ (∀ p ∈ L, SqT K H p.1 (p.2.map V.int)) ∧ (∀ p ∈ L, p.2 ≠ []) ∧
  ∀ p, H p = none → Q (.ref p) (upd H p (.lst ((L.mergeSort leR).map fun p => V.ref p.1)))
theorem cr_sortedR {X : Cx} (hu : X.A.units + 64 < cLine) : CallR X (.builtin "sorted") (rSortedR X.K) := by
  intro pins s σ H xs us Q I r h
  obtain ⟨a, L, rfl, hl, hk, hne, q⟩ := h
  rw [Vals.ref1 r]
  obtain ⟨its, rv, pl, hz⟩ := I.list hl
  have ei : its = L.map fun p => Value.ref p.1 := refs_of_vals rv
  subst ei
  have hz2 : L.length ≤ sizeLine := by simpa using hz
  refine PySem.W.sorted_data (bs := L) (enc := encR) pl.isList (rows_each L) (rows_read I L hk) (rows_alike L) (rows_sortable hne) hz2 (rows_deep (k := 2) (by omega)) fun out hlen he => ?_
  rw [leR_is] at he
  have eo := rows_back he
  subst eo
  obtain ⟨ep, ho⟩ := PyProof.Rows.sortedAll_at s.heap (L.map fun p => Value.ref p.1) ((L.mergeSort leR).map fun p => Value.ref p.1).toArray
  refine ⟨.ref _, upd H (s.heap.objs.size + 1) (.lst ((L.mergeSort leR).map fun p => V.ref p.1)), I.laid (t' := s.toks) (fun _ _ => PyProof.Rows.sortedAll_old) (Nat.le_succ _) ⟨?_, _, ep, vals_of_refs _, ho⟩, rfl, q _ (I.hok.fresh (Nat.le_succ _))⟩
  rw [List.length_map, List.length_mergeSort]
  exact hz2
/-- sorted of a set of tuples of ints -/
theorem rows_order {L : List Row} : ∀ {vs : List Value}, (∀ v ∈ vs, ∃ q ∈ L, v = Value.ref q.1) → ∃ L1 : List Row, vs = L1.map (fun q => Value.ref q.1) ∧ ∀ q ∈ L1, q ∈ L
  | [], _ => ⟨[], rfl, fun q hq => nomatch hq⟩
  | v :: vs, h => by
    obtain ⟨q, hq, e⟩ := h v List.mem_cons_self
    obtain ⟨L1, e1, h1⟩ := rows_order (vs := vs) fun u hu => h u (List.mem_cons_of_mem _ hu)
    refine ⟨q :: L1, by rw [e, e1]; rfl, fun r hr => ?_⟩
    cases hr with
    | head => exact hq
    | tail _ z => exact h1 r z
section
variable {P : Program} {w : World} {A : Around} {E : Value → Shared → Prop} {s : Shared}
theorem nodup_back {α β : Type} {f : α → β} : ∀ {l : List α}, (l.map f).Nodup → l.Nodup
  | [], _ => List.nodup_nil
  | a :: l, h => by
    obtain ⟨h1, h2⟩ := List.nodup_cons.mp h
    exact List.nodup_cons.mpr ⟨fun z => h1 (List.mem_map.mpr ⟨a, z, rfl⟩), nodup_back h2⟩
theorem sorted_rows {a : Addr} {L : List Row} {es : Array (Int × Value)} {ep : Nat} {t : SetTable} {Q : Value → Shared → Prop} (R : SetTR P w s.heap a L es ep t) (hh : A.handled = none) (hu : A.units + 64 < cLine) (hne : ∀ p ∈ L, p.2 ≠ [])
    (rd : ∀ p ∈ L, ∃ as, Reads s.heap (.ref p.1) (encR p) as)
    (done : ∀ s' p (c : Nat) (L' : List Row), (∀ b o, s.heap.get? b = some o → s'.heap.get? b = some o) → s'.gens = s.gens → s'.os = s.os → s.heap.objs.size ≤ p →
      s'.heap.get? p = some (seqObj "list" (L'.map fun q => Value.ref q.1).toArray c) → L'.Perm L → L'.Pairwise (fun q r => q.2 ≤ r.2) → Q (.ref p) s') :
    wpAny (model P w) A (call (.builtin "sorted") [.ref a]) Q E s := by
  obtain ⟨o, ho, hex, hd⟩ := R.ob
  have size := R.size
  have few := R.few
  refine Calls.call_function_entry kind_sorted plain_sorted entry_sorted (args_sorted1 _) ?_
  unfold Builtin.«sorted»
  refine wpAny_bind (m := checkCount "sorted" 1 1 _) (wpAny_pure ?_)
  refine wpAny_bind (collect_set (A := A.in1) hh ⟨o, ho, hex.1, hd⟩ R.fits (by rw [size]; exact Nat.lt_trans few (by decide)) R.tab.ris R.led fun s1 vs k1 hz g1 o1 pm => ?_)
  have rows : es.toList.map (·.2) = L.map fun q => Value.ref q.1 := by
    rw [R.rows]
    unfold rowsOf
    rw [List.map_map]
    rfl
  rw [rows] at pm
  obtain ⟨L1, e1, sub1⟩ := rows_order (L := L) (vs := vs) fun v hv => by
    obtain ⟨q, hq, e⟩ := List.mem_map.mp (pm.mem_iff.mp hv)
    exact ⟨q, hq, e.symm⟩
  have apart : ∀ q ∈ L, ∀ r ∈ L, q.1 = r.1 → q = r := by
    intro q hq r hr e
    have t1 := R.tup q hq
    have t2 := R.tup r hr
    rw [e] at t1
    exact Prod.ext e (t1.inj t2)
  have pm1 : L1.Perm L := by
    have nL : L.Nodup := nodup_back R.nd
    have nR : (L.map fun q => Value.ref q.1).Nodup := by
      refine List.pairwise_map.mpr (List.Pairwise.imp_of_mem (fun {q r} hq hr hn e => ?_) nL)
      injection e with e
      exact hn (apart q hq r hr e)
    rw [e1] at pm
    refine (List.perm_ext_iff_of_nodup (nodup_back (pm.nodup_iff.mpr nR)) nL).mpr fun q => ⟨sub1 q, fun hq => ?_⟩
    obtain ⟨r, hr, e⟩ := List.mem_map.mp (pm.mem_iff.mpr (List.mem_map.mpr ⟨q, hq, rfl⟩))
    injection e with e
    rw [← apart r (sub1 r hr) q hq e]
    exact hr
  subst e1
  have len1 : L1.length < 64 := by rw [pm1.length_eq]; exact few
  have line1 : L1.length ≤ sizeLine := by rw [sizeLine_eq]; omega
  refine wpAny_bind (wpAny_newList ?_ (by simpa using line1))
  have hoL : (s1.heap.push (seqObj "list" (L1.map fun q => Value.ref q.1).toArray 0)).get? s1.heap.objs.size = some (seqObj "list" (L1.map fun q => Value.ref q.1).toArray 0) := Heap.get?_push_size _ rfl
  have er : ∀ (M : List Row), (∀ q ∈ M, q ∈ L) → PySem.W.EachIs (fun v b => ∃ as, Reads (s1.heap.push (seqObj "list" (L1.map fun q => Value.ref q.1).toArray 0)) v (encR b) as ∧ s1.heap.objs.size ∉ as) (M.map fun p => Value.ref p.1) M := by
    intro M
    induction M with
    | nil => intro _; exact .nil
    | cons p M ih =>
      intro hM
      obtain ⟨as, r0⟩ := rd p (hM p List.mem_cons_self)
      have r1 := PyProof.Rows.Reads.keeps (h' := s1.heap.push (seqObj "list" (L1.map fun q => Value.ref q.1).toArray 0)) (fun b u e => Heap.get?_push_of_some _ (k1 b u e)) r0
      refine .cons ⟨as, r1, ?_⟩ (ih fun q hq => hM q (List.mem_cons_of_mem _ hq))
      have flat : ∀ {h : Heap} {ns : List Int} {us : List Value} {bs : List Addr}, ReadsAll h us (ns.map PyData.int) bs → bs = [] := by
        intro h ns
        induction ns with
        | nil => intro us bs z; cases z; rfl
        | cons n ns ih2 =>
          intro us bs z
          cases z with
          | cons z1 z2 =>
            cases z1
            rw [ih2 z2]
            rfl
      have e0 : as = [] := by
        cases r0 with
        | tuple _ _ _ z => exact flat z
      rw [e0]
      exact List.not_mem_nil
  refine wpAny_bind (wpAny_holding (PySem.W.list_sort_data (s := { s1 with heap := s1.heap.push (seqObj "list" (L1.map fun q => Value.ref q.1).toArray 0) }) (R := fun v (p : Row) => v = Value.ref p.1) (bs := L1) (enc := encR) hoL (rows_each L1) (er L1 sub1) (rows_alike L1)
    (rows_sortable fun p hp => hne p (sub1 p hp)) line1 (rows_deep (k := 1) (by show A.units + 1 + 1 + 1 < cLine; omega)) fun out hlen he => ?_))
  rw [leR_is] at he
  have eo := rows_back he
  subst eo
  obtain ⟨c, hc⟩ := sortedHeap_at (vs := L1.map fun q => Value.ref q.1) (out := ((L1.mergeSort leR).map fun q => Value.ref q.1).toArray) hoL
  refine wpAny_pure ⟨_, rfl, done _ s1.heap.objs.size c (L1.mergeSort leR) (fun b u e => ?_) g1 o1 hz hc ((List.mergeSort_perm L1 leR).trans pm1) ?_⟩
  · have q := k1 b u e
    have hlt := Heap.lt_size q
    show (sortedHeap (s1.heap.push (seqObj "list" (L1.map fun q => Value.ref q.1).toArray 0)) s1.heap.objs.size (L1.map fun q => Value.ref q.1) _).get? b = some u
    rw [sortedHeap_old (Nat.ne_of_lt hlt) (by rw [size_push']; exact Nat.lt_succ_of_lt hlt)]
    exact Heap.get?_push_of_some _ q
  · exact (List.pairwise_mergeSort leR_trans leR_total L1).imp fun h => of_decide_eq_true h
end
/-- sorted(set), any tuples of ints -/
def rSortedS (K : PySem.W.Frag) (P : Program) (w : World) : List V → Hp → VK → Prop := fun vs H Q => ∃ (a : Addr) (L : List Row), vs = [V.ref a] ∧ H a = some (SetTO P w a L) ∧ (∀ p ∈ L, SqT K H p.1 (p.2.map V.int)) ∧ (∀ p ∈ L, p.2 ≠ []) ∧
  ∀ (L' : List Row) (p : Addr), L'.Perm L → (L'.map (·.2)).Nodup → L'.length < 64 → L'.Pairwise (fun q r => q.2 ≤ r.2) → H p = none → Q (.ref p) (upd H p (.lst (L'.map fun q => V.ref q.1)))
theorem cr_sortedSR {X : Cx} (hc : X.calm = true) (hu : X.A.units + 64 < cLine) : CallR X (.builtin "sorted") (rSortedS X.K X.prog X.w) := by
  intro pins s σ H xs us Q I r h
  obtain ⟨a, L, rfl, ha, hk, hne, q⟩ := h
  obtain ⟨es, ep, t, R⟩ := SetT0.full (I.hok a _ ha).1 fun p hp => I.isT (hk p hp)
  rw [Vals.ref1 r]
  refine sorted_rows R (I.ok.hd hc) hu hne (fun p hp => Dp.reads I (encR p) (.ref p.1) (.ref p.1) (.tup (hk p hp) (dpAll_ints p.2)) rfl) fun s' p c L' k g o hp hg pm pw => ?_
  have few : L'.length < 64 := by rw [pm.length_eq]; exact R.few
  have line : (L'.map fun q => V.ref q.1).length ≤ sizeLine := by rw [List.length_map, sizeLine_eq]; omega
  have free : H p = none := I.hok.fresh hp
  have J : Inv X pins σ (upd H p (.lst (L'.map fun q => V.ref q.1))) s' := I.call' (s' := s') (ch := []) o (Un.laid k hp free) (I.hok.laid k hp ⟨line, _, c, vals_of_refs L', hg⟩) (by rw [g]; exact I.bare) (fun _ z => nomatch z)
  exact ⟨.ref p, _, J, rfl, q L' p pm ((pm.map (·.2)).nodup_iff.mpr R.nd) few pw free⟩
end Ft

set_option Elab.async false
set_option linter.all false
set_option maxRecDepth 100000
set_option maxHeartbeats 4000000
namespace Ft
open PySem PySem.Spec PyProof.Rows L2
/-! ### a def that may be called by its name -/
structure Cal (P : Program) (w : World) (K : PySem.W.Frag) (mg : Str → Option Value) (base : Heap) (k : Nat) (x : Str) (sp : Sp) : Prop where
  ex : ∃ (f : Addr) (fd : FuncData) (ps : List Str), FnOk P w K mg base L2.CX0 k f fd ps sp ∧ mg x = some (.ref f) ∧ PySem.W.keepIn K (.ref f) = true ∧ Binds K fd ps []
theorem pe_c {X : Cx} {k j : Nat} {x : Str} {sp : Sp} {p pos : Pos} {e : Expr} {es : List Expr} {t : TA} (c : Cal X.prog X.w X.K X.mg X.base k x sp) (hr : Room j X.A) (hk : k ≤ j) (hg : Gl X x) (ha : PA X (e :: es) t)
    (hdb : (x == ("__debug__" : Str)) = false := by decide) (he : starEach (e :: es) X.env = (false, eval e X.env) :: starEach es X.env := by rfl) (hpl : (backTo pos (starEach es X.env)).any (·.1) = false := by rfl) :
    PE X (.Call (.Name x p) (e :: es) [] pos) (tCall sp [] L2.E0 t) := by
  obtain ⟨f, fd, ps, F, hm, kp, b⟩ := c.ex
  exact pe_call F (hr.mono hk) hg hm kp b .nil L2.pass0 ha hdb he hpl
/-- a def of the module as it stands behind the top, under its name -/
structure Def (K : PySem.W.Frag) (mg : Str → Option Value) (x : Str) (st : Stmt) : Prop where
  ex : ∃ (f : Addr) (fd : FuncData), L2.Fun K x x st f fd ∧ mg x = some (.ref f)
theorem cal_of {P : Program} {w : World} {K : PySem.W.Frag} {mg : Str → Option Value} {base : Heap} {x : Str} {st : Stmt} {N ps : List Str} {k : Nat} {sp : Sp} (D : Def K mg x st) (S : FnScope N ps (L2.defScope st))
    (bd : ∀ (kV doc pm : Value) (an : Option Addr) (cdv ct : Value) (us : List Value), us.length = ps.length → bindArgs (PySem.W.fnOf x x (L2.defArgs st) (L2.defBody st) (L2.defScope st) .none kV doc pm an cdv ct) ⟨us, []⟩ = pure (ps.zip us))
    (len : ∀ vs H Q E, sp vs H Q E → vs.length = ps.length)
    (body : ∀ (f : Addr) (cdv : Value) (A : Around) (outer : List Env) (s : Shared) (H : Hp) (vs : List V) (Q : VK) (E : XK), Room k (A.deeper (envOfC x (L2.defScope st) s.heap.objs.size f cdv)) → sp vs H Q E →
      ∃ t, PSs (cxOf L2.CX0 P w K mg base N x (L2.defScope st) f cdv A outer s H E).nox (L2.defBody st) t ∧ t { nx := fun _ H' => Q .non H', rt := Q } (start N vs) H) : Cal P w K mg base (k + 1) x sp := by
  obtain ⟨f, fd, F, hm⟩ := D.ex
  exact ⟨f, fd, ps, F.ok S len (body f), hm, F.kp, F.binds bd⟩
theorem calG_of {P : Program} {w : World} {K : PySem.W.Frag} {mg : Str → Option Value} {base : Heap} {x : Str} {st : Stmt} {N ps : List Str} {k : Nat} {sp : Sp} (D : Def K mg x st) (S : FnScope N ps (L2.defScope st))
    (bd : ∀ (kV doc pm : Value) (an : Option Addr) (cdv ct : Value) (us : List Value), us.length = ps.length → bindArgs (PySem.W.fnOf x x (L2.defArgs st) (L2.defBody st) (L2.defScope st) .none kV doc pm an cdv ct) ⟨us, []⟩ = pure (ps.zip us))
    (len : ∀ vs H Q E, sp vs H Q E → vs.length = ps.length)
    (body : ∀ (f : Addr) (cdv : Value) (A : Around) (out : List Env) (s : Shared) (H : Hp) (vs : List V) (Q : VK) (E : XK), A.guards = some [] → Room k (A.deeper (envOfC x (L2.defScope st) s.heap.objs.size f cdv)) → sp vs H Q E →
      ∃ t, PSs (cxOf L2.CX0 P w K mg base N x (L2.defScope st) f cdv A out s H E).nox (L2.defBody st) t ∧ t { nx := fun _ H' => Q .non H', rt := Q } (start N vs) H) : CalG P w K mg base (k + 1) x sp := by
  obtain ⟨f, fd, F, hm⟩ := D.ex
  exact ⟨f, fd, ps, gfun F S len (body f), hm, F.kp, F.binds bd⟩

/-! ### enumerate(tuple) -/
theorem enum_newT (l : Addr) (items : Array Value) (n : Nat) (dct : Option Addr) (sl : Array (Option Value)) :
    Meets (Builtin.«enumerate.__new__» ⟨[.type "enumerate", .ref l], []⟩) (fun _ R s => s.heap.get? l = some { cls := .type "tuple", dict := dct, data := .seq items n, slots := sl } ∧
      R (.ok (.ret (.ref (s.heap.push { cls := .type "tuple_iterator", data := .fields #[.ref l, .int 0 0] }).objs.size)))
        { s with heap := (s.heap.push { cls := .type "tuple_iterator", data := .fields #[.ref l, .int 0 0] }).push { cls := .type "enumerate", data := .fields #[.none, .bool false, .ref s.heap.objs.size, rawInt 0, .none, .none] } }) :=
  .of_wp fun prog w A R s h => by
    obtain ⟨hp, g, d, tk, os⟩ := s
    obtain ⟨hl, h⟩ := h
    have sub := sub_enumerate
    have tup : Heap.IsTuple (Shared.heap ⟨hp, g, d, tk, os⟩) l items := ⟨_, hl, rfl, n, rfl⟩
    wp_walk using PySem.AutoSeq1.wpAny_loadPart' hl
    refine wpAny_stack_any fun st => wpAny_pure ?_
    split
    · rename_i c _ _ _ _ _
      cases (c == Value.type "enumerate")
      · wp_walk using PySem.AutoSeq1.wpAny_loadPart' hl, wpAny_pyIter_tuple tup
        exact ⟨_, rfl, h⟩
      · wp_walk using PySem.AutoSeq1.wpAny_loadPart' hl, wpAny_pyIter_tuple tup
        exact ⟨_, rfl, h⟩
    · wp_walk using PySem.AutoSeq1.wpAny_loadPart' hl, wpAny_pyIter_tuple tup
      exact ⟨_, rfl, h⟩
theorem enum_tuple {prog : Program} {w : World} {A : Around} {E : Value → Shared → Prop} {s : Shared} {l : Addr} {items : Array Value} {Q : Value → Shared → Prop} (hL : s.heap.IsTuple l items)
    (h : ∀ h', IsEnum h' (s.heap.objs.size + 1) s.heap.objs.size 0 .none → h'.IsTupleIter s.heap.objs.size l 0 → h'.objs.size = s.heap.objs.size + 2 → (∀ b o, s.heap.get? b = some o → h'.get? b = some o) → Q (.ref (s.heap.objs.size + 1)) { s with heap := h' }) :
    wpAny (model prog w) A (call (.type "enumerate") [.ref l]) Q E s := by
  obtain ⟨⟨c, dct, dt, sl⟩, hl, hc, n, hd⟩ := hL
  replace hc : c = .type "tuple" := hc
  replace hd : dt = .seq items n := hd
  subst hc hd
  refine callType_new F.called_enumerate (by decide) (F.typeCall_enumerate_1 _) (F.newCall_enumerate_1 _) (fun obj => F.args_object_init_2 obj _) F.entry_enumerate_new (enum_newT l items n dct sl) ⟨hl, ?_⟩
  have hz : (s.heap.push { cls := .type "tuple_iterator", data := .fields #[.ref l, .int 0 0] }).objs.size = s.heap.objs.size + 1 := Heap.size_push ..
  show _ ∧ _
  rw [hz]
  have he : IsEnum ((s.heap.push { cls := .type "tuple_iterator", data := .fields #[.ref l, .int 0 0] }).push { cls := .type "enumerate", data := .fields #[.none, .bool false, .ref s.heap.objs.size, rawInt 0, .none, .none] }) (s.heap.objs.size + 1) s.heap.objs.size 0 .none := by
    have q := Heap.get?_push_size (s.heap.push { cls := .type "tuple_iterator", data := .fields #[.ref l, .int 0 0] }) (o := { cls := .type "enumerate", data := .fields #[.none, .bool false, .ref s.heap.objs.size, rawInt 0, .none, .none] }) rfl
    rw [hz] at q
    exact q
  exact ⟨⟨_, he, rfl⟩, h _ he ⟨_, Heap.get?_push_of_some _ (Heap.get?_push_size _ rfl), rfl, rfl⟩ (by rw [Heap.size_push, hz]) fun b o x => Heap.get?_push_of_some _ (Heap.get?_push_of_some _ x)⟩
def IteT (K : PySem.W.Frag) (a : Addr) : It :=
  ⟨fun i H => ∃ (xs : List V) (x : V), SqT K H a xs ∧ xs[i]? = some x, fun i H v H' => ∃ T x, v = .ref T ∧ H T = none ∧ H' = upd H T (.tup [.int (i : Nat), x]) ∧ ∀ xs, SqT K H a xs → xs[i]? = some x, fun i H => ∃ xs : List V, SqT K H a xs ∧ xs.length = i⟩
theorem turn_enumT {P : Program} {w : World} {K : PySem.W.Frag} {elts : List Expr} {kk : Nat} {tpos : Pos} (a e it : Addr) :
    Turn P w K (.Tuple elts kk tpos) (IteT K a) [e, it] e (fun i h => (∃ old, IsEnum h e it ((i : Nat) : Int) old) ∧ h.IsTupleIter it a i ∧ e ≠ it ∧ a ≠ it ∧ e ≠ a) where
  mem := by simp
  obj := fun i h st b hb => by
    obtain ⟨⟨old, he⟩, ⟨o, ho, hc, hd⟩, _⟩ := st
    have e' : b = e ∨ b = it := by simpa using hb
    rcases e' with z | z
    · rw [z]; exact ⟨_, he, fun v q => nomatch q⟩
    · rw [z]; exact ⟨o, ho, fun v q => by rw [hd] at q; cases q⟩
  keep := fun i h h' st k => let ⟨⟨old, he⟩, hi, hne⟩ := st; ⟨⟨old, k e (by simp) _ he⟩, hi.at fun o q => k it (by simp) o q, hne⟩
  item := by
    intro X hP hw hK hc i pins s σ H E I hf st hg
    subst hP hw hK
    obtain ⟨⟨old, he⟩, hit, hne, hai, hea⟩ := st
    obtain ⟨xs, x, hq, hx⟩ := hg
    obtain ⟨its, rv, p, hz⟩ := I.tuple hq
    have pt : s.heap.IsTuple a its.toArray := p
    obtain ⟨u, hu, ru⟩ := rv.get hx
    have hel : e < s.heap.objs.size := Heap.lt_size he
    have hil : it < s.heap.objs.size := by obtain ⟨_, q, _⟩ := hit; exact Heap.lt_size q
    have hlt : i < its.toArray.size := by
      have := (List.getElem?_eq_some_iff.mp hu).1
      simpa using this
    refine wpAny_pyNext_enum_itemD (Draws.tuple (A := X.A.in1) (by simpa using I.ok.hd hc) it a hai its.toArray) he ⟨hit, pt⟩ hlt hne (by simp [hne, hea]) fun y h' tk hy ho hit' hT hsz hk => ?_
    have eu : y = u := by
      have z : its[i]? = some y := by simpa using hy
      exact Option.some.inj (z.symm.trans hu)
    subst eu
    refine ⟨_, rfl, wpAny_letOwnedTupleGo_enum (s := { s with heap := h', toks := tk + 1 }) ho fun h'' he' sb => ?_⟩
    have hT2 : h''.get? s.heap.objs.size = some { cls := .type "tuple", data := .seq #[.int i tk, y] } := (sb.2 _ (Nat.ne_of_gt hel)).trans hT
    have new : ObjOk X.prog X.w (upd H s.heap.objs.size (.tup [.int (i : Nat), x])) h'' s.heap.objs.size (.tup [.int (i : Nat), x]) :=
      ⟨by show 2 ≤ sizeLine; decide, [.int i tk, y], .cons ⟨_, rfl⟩ (.cons ru .nil), ⟨_, hT2, rfl, _, rfl⟩⟩
    have I1 : Inv X pins σ (upd H s.heap.objs.size (.tup [.int (i : Nat), x])) { s with heap := h'', toks := tk + 1 } :=
      I.turnedNew (ch := [e, it]) (fun b ob hb q => (sb.2 b (fun z => hb (by simp [z]))).trans (hk b ob (fun z => hb (by simp [z])) (fun z => hb (by simp [z])) q)) hf (Nat.le_refl _) new
    refine ⟨.ref s.heap.objs.size, _, I1, rfl, ⟨_, x, rfl, I.hok.fresh (Nat.le_refl _), rfl, fun ys hy => by rw [I.tuple_inj hy hq]; exact hx⟩, ⟨⟨y, ?_⟩, hit'.1.at fun o q => (sb.2 it (Ne.symm hne)).trans q, hne, hai, hea⟩, fun b hb => ?_⟩
    · have e1 : ((i + 1 : Nat) : Int) = (i : Int) + 1 := by omega
      rw [e1]; exact he'
    · have e' : b = e ∨ b = it := by simpa using hb
      have hb' : b < s.heap.objs.size := by
        rcases e' with z | z
        · rw [z]; exact hel
        · rw [z]; exact hil
      rw [upd_ne (Nat.ne_of_lt hb')]
      exact (hf b hb).1
  done := by
    intro X hP hw hK hc i pins s σ H E I hf st hg
    subst hP hw hK
    obtain ⟨⟨old, he⟩, hit, hne, hai, hea⟩ := st
    obtain ⟨xs, hq, hx⟩ := hg
    obtain ⟨its, rv, p, hz⟩ := I.tuple hq
    have pt : s.heap.IsTuple a its.toArray := p
    obtain ⟨f0, f1, f2, f3, f4, f5⟩ := hf it (by simp)
    have hl : its.toArray.size = i := by
      rw [← hx, rv.length]
      simp
    refine wpAny_pyNext_enum_endD (Draws.tuple (A := X.A.in1) (by simpa using I.ok.hd hc) it a hai its.toArray) he ⟨by rw [hl]; exact hit, pt⟩ fun h' eb => ⟨rfl, I.turned (t' := s.toks) (fun b o hb q => eb b o hb q) f0 f1 f3 f4 f5⟩
  self := fun A i s Q E st h => let ⟨⟨_, he⟩, _⟩ := st; wpAny_pyIter_enum he h
def iEnumT (K : PySem.W.Frag) (ta : TA) : TI := fun σ H R => ta σ H fun vs H1 => ∃ a xs, vs = [.ref a] ∧ SqT K H1 a xs ∧ R (IteT K a) H1
theorem pi_enumT {X : Cx} {e : Expr} {ta : TA} {p pos tpos : Pos} {elts : List Expr} {kk : Nat} (hg : Gl X "enumerate") (hm : X.mg "enumerate" = none) (ha : PA X [e] ta) (hs : starEach [e] X.env = [(false, eval e X.env)] := by rfl) :
    PI X (.Tuple elts kk tpos) (.Call (.Name "enumerate" p) [e] [] pos) (iEnumT X.K ta) := by
  refine ⟨fun pins s σ H R I h => ?_⟩
  refine Call_ (ld_blt I hg hm boot_enumerate (PyProof.Rows.callWith_type1 (thn (ha.run pos pins s σ H _ I h) fun us s1 ⟨vs, H1, I1, r1, q1⟩ => ?_) hs rfl))
  obtain ⟨a, xs, ex, hq, q⟩ := q1
  subst ex
  cases r1 with
  | cons r rr =>
    cases rr
    cases r
    obtain ⟨its, rv, p', hz⟩ := I1.tuple hq
    have pt : s1.heap.IsTuple a its.toArray := p'
    have below : a < s1.heap.objs.size := by obtain ⟨_, q, _⟩ := pt; exact Heap.lt_size q
    refine enum_tuple pt fun h' he hit hsz hk => wpAny_pyIter_enum he ?_
    have I2 : Inv X pins σ H1 { s1 with heap := h' } := I1.kept (t' := s1.toks) hk
    refine ⟨s1.heap.objs.size + 1, [s1.heap.objs.size + 1, s1.heap.objs.size], _, _, H1, rfl, I2, turn_enumT a (s1.heap.objs.size + 1) s1.heap.objs.size, ⟨⟨.none, he⟩, hit, Nat.succ_ne_self _, Nat.ne_of_lt below, Nat.ne_of_gt (Nat.lt_succ_of_lt below)⟩, fun b hb => ?_, q⟩
    have e' : b = s1.heap.objs.size + 1 ∨ b = s1.heap.objs.size := by simpa using hb
    have hle : s1.heap.objs.size ≤ b := by
      rcases e' with z | z
      · rw [z]; exact Nat.le_add_right _ _
      · rw [z]; exact Nat.le_refl _
    exact I1.fpOk hle (I1.hok.fresh hle)
theorem walk_enumT {K : PySem.W.Frag} {a : Addr} {xs : List V} : L2.Walk (IteT K a) xs.length (fun H => SqT K H a xs) (YPair (fun i => some (.int (i : Nat))) (fun i => xs[i]?)) :=
  ⟨fun i H hi q => ⟨xs, xs[i], q, by simp [hi]⟩, fun H q => ⟨xs, q, rfl⟩, fun i H x H' hi q ⟨T, y, e1, e2, e3, e4⟩ => ⟨T, _, y, e1, e2, e3, rfl, e4 xs q⟩⟩

/-! ### a dict comprehension over any walk -/
theorem dc_it {J : It} {n : Nat} {G : Hp → Prop} {Y : Nat → Hp → V → Hp → Prop} (w : L2.Walk J n G Y) {g : TG} {tt : TT} {tk tv : TE} {vs : List Nat} {σ : L2.St} {H1 : Hp} {D : Addr} {Qd : Hp → Prop} (Pv : Nat → Hp → Prop) (h0 : Pv 0 (upd H1 D (.dK []))) (hG : ∀ i H, i ≤ n → Pv i H → G H)
    (hs : ∀ i x H H', i < n → Pv i H → Y i H x H' → g x (wipe σ vs) H' fun σ2 H2 => wipe σ2 vs = wipe σ vs ∧ tt σ2 H2 fun b H3 =>
      if b = true then tk σ2 H3 fun y H4 => tv σ2 H4 fun z H5 => ∃ kvs k, y = kV k ∧ H5 D = some (.dK kvs) ∧ kvs.length < sizeLine ∧ Pv (i + 1) (upd H5 D (.dK (putK kvs k z))) else Pv (i + 1) H3) (hd : ∀ H, Pv n H → Qd H) :
    ∃ W : Nat → Nat → Hp → Prop, (∃ m, W 0 m (upd H1 D (.dK []))) ∧ ∀ i m H, W i m H →
      (J.stop i H ∧ Qd H) ∨ (J.go i H ∧ ∃ Nx : Hp → Prop, (∀ H', Nx H' → ∃ m', m' < m ∧ W (i + 1) m' H') ∧ ∀ x H', J.yld i H x H' → g x (wipe σ vs) H' fun σ2 H2 => wipe σ2 vs = wipe σ vs ∧ tt σ2 H2 fun b H3 =>
        if b = true then tk σ2 H3 fun y H4 => tv σ2 H4 fun z H5 => ∃ kvs k, y = kV k ∧ H5 D = some (.dK kvs) ∧ kvs.length < sizeLine ∧ Nx (upd H5 D (.dK (putK kvs k z))) else Nx H3) := by
  refine ⟨fun i m H => m = n - i ∧ i ≤ n ∧ Pv i H, ⟨n, rfl, Nat.zero_le _, h0⟩, fun i m H ⟨em, hi, p⟩ => ?_⟩
  subst em
  have q := hG i H hi p
  rcases Nat.lt_or_eq_of_le hi with hlt | e
  · exact .inr ⟨w.goes i H hlt q, Pv (i + 1), fun H' p' => ⟨n - (i + 1), by omega, rfl, hlt, p'⟩, fun x H' y => hs i x H H' hlt p (w.yields i H x H' hlt q y)⟩
  · subst e
    exact .inl ⟨w.stops H q, hd H p⟩

/-! ### isinstance, one class -/
theorem isi_tuple {K : PySem.W.Frag} {H : Hp} {a : Addr} {xs : List V} (h : SqT K H a xs) : TyX K H (.ref a) (.type "tuple") := by
  rcases h with (h | ⟨o, h⟩) | ⟨o, _, _, e, c, _⟩
  · exact .base (.tup h)
  · exact .fTuple h
  · exact .kTuple e c
end Ft
namespace Ft
open PySem PySem.Spec PyProof.Rows L2
/-- a block within a block -/
theorem blkIn {N : List Str} {env : Env} {cl : List (Str × Addr)} {C : Addr} {scope inner sc : Scope} {own : List (Str × Nat)} (he : env.scope = sc) (h : blkC N (relS scope sc) inner own = true) : BlkOk N (compEnvC scope cl C env).scope inner own := by
  subst he
  exact blkOk_by h
end Ft
namespace Ft
open PySem PySem.Spec PyProof.Rows L2
/-! ### the layer's rules whose reading names the written part, under names of their own -/
def rLenS (K : PySem.W.Frag) : List V → Hp → VK → Prop := fun xs H Q => ∃ p ys, xs = [.ref p] ∧ (SqL K H p ys ∨ SqT K H p ys) ∧ Q (.int ys.length) H
theorem call_lenS {X : Cx} : CallR X (.builtin "len") (rLenS X.K) := call_len_seq
def rListOf (K : PySem.W.Frag) : List V → Hp → VK → Prop := fun xs H Q => ∃ p ys, xs = [.ref p] ∧ (SqL K H p ys ∨ SqT K H p ys) ∧ ∀ l, H l = none → Q (.ref l) (upd H l (.lst ys))
theorem call_listOf {X : Cx} : CallR X (.type "list") (rListOf X.K) := call_list_of
def rTupleOf (K : PySem.W.Frag) : List V → Hp → VK → Prop := fun xs H Q => ∃ p ys, xs = [.ref p] ∧ ((SqL K H p ys ∧ ∀ l, H l = none → Q (.ref l) (upd H l (.tup ys))) ∨ (SqT K H p ys ∧ Q (.ref p) H))
theorem call_tupleOf {X : Cx} : CallR X (.type "tuple") (rTupleOf X.K) := call_tuple_of
end Ft
namespace Ft
open PySem PySem.Spec PyProof.Rows L2
theorem at_name {i : Nat} {v : V} {σ : L2.St} {H : Hp} {Q : L2.St → Hp → Prop} (h : Q (σ.set i (some v)) H) : gName i v σ H Q := h
theorem at_seq {a b : TS} {D : Ends} {σ : L2.St} {H : Hp} (h : a { D with nx := b D } σ H) : tSeq a b D σ H := h
end Ft
namespace Ft
open PySem PySem.Spec PyProof.Rows L2
/-! ### a word between two statements, and behind an expression -/
def tCut (t u : TS) : TS := fun D σ H => ∃ M : L2.St → Hp → Prop, t { D with nx := M } σ H ∧ ∀ σ' H', M σ' H' → u D σ' H'
theorem ps_cut {X : Cx} {st : Stmt} {rest : List Stmt} {t u : TS} (h1 : PS X st t) (h2 : PSs X rest u) : PSs X (st :: rest) (tCut t u) := by
  refine ⟨fun pins s σ H D I h => ?_⟩
  obtain ⟨M, hm, hu⟩ := h
  refine wpAny_execs_cons (thn (h1.run pins s σ H { D with nx := M } I hm) ?_)
  intro f s1 q
  match f, q with
  | .next, q =>
    obtain ⟨σ', H', I', q⟩ := q
    exact h2.run pins s1 σ' H' D I' (hu σ' H' q)
  | .ret v, q => exact q
  | .brk, q => exact q
  | .cont, q => exact q
def tMid (te : TE) : TE := fun σ H Q => ∃ M : V → Hp → Prop, te σ H M ∧ ∀ v H', M v H' → Q v H'
theorem pe_mid {X : Cx} {e : Expr} {te : TE} (h : PE X e te) : PE X e (tMid te) := by
  refine ⟨fun pins s σ H Q I ⟨M, hm, hu⟩ => ?_⟩
  exact thn (h.run pins s σ H M I hm) fun u s1 ⟨v, H1, I1, r, m⟩ => ⟨v, H1, I1, r, hu v H1 m⟩
def tMidT (tt : TT) : TT := fun σ H Q => ∃ M : Bool → Hp → Prop, tt σ H M ∧ ∀ b H', M b H' → Q b H'
theorem pt_mid {X : Cx} {e : Expr} {tt : TT} (h : PT X e tt) : PT X e (tMidT tt) := by
  refine ⟨fun pins s σ H Q I ⟨M, hm, hu⟩ => ?_⟩
  exact thn (h.run pins s σ H M I hm) fun b s1 ⟨H1, I1, m⟩ => ⟨H1, I1, hu b H1 m⟩
theorem ite_any {c : Bool} {A B : Prop} (a : c = true → A) (b : c = false → B) : if c = true then A else B := by
  cases c with
  | true => exact iteT (a rfl)
  | false => exact iteF (b rfl)
end Ft

set_option Elab.async false
set_option linter.all false
set_option maxRecDepth 100000
set_option maxHeartbeats 4000000
namespace Ft
open PySem PySem.Spec PyProof.Rows L2
/-! ### the heap: what stays, and maps as they lie in it -/
def vN (n : Nat) : V := .int (n : Int)
def iN (l : List Nat) : List Int := l.map fun (n : Nat) => (n : Int)
theorem vN_map (l : List Nat) : l.map vN = (iN l).map V.int := by
  unfold iN
  rw [List.map_map]
  rfl
theorem iN_length (l : List Nat) : (iN l).length = l.length := List.length_map ..
theorem iN_mem {l : List Nat} {n : Nat} : (n : Int) ∈ iN l ↔ n ∈ l := by
  unfold iN
  constructor
  · intro h
    obtain ⟨m, hm, e⟩ := List.mem_map.mp h
    have : m = n := by omega
    exact this ▸ hm
  · intro h
    exact List.mem_map.mpr ⟨n, h, rfl⟩
/-- all but the objects in ex stay as they are -/
def Kp (ex : List Addr) (H H' : Hp) : Prop := ∀ b o, b ∉ ex → H b = some o → H' b = some o
theorem Kp.refl (ex : List Addr) (H : Hp) : Kp ex H H := fun _ _ _ h => h
theorem Kp.trans {ex : List Addr} {H H1 H2 : Hp} (a : Kp ex H H1) (b : Kp ex H1 H2) : Kp ex H H2 := fun c o n h => b c o n (a c o n h)
theorem Kp.of_same {ex : List Addr} {H H1 : Hp} (a : Same H H1) : Kp ex H H1 := fun c o _ h => a c o h
theorem Same.kp {ex : List Addr} {H H1 : Hp} (a : Same H H1) : Kp ex H H1 := fun c o _ h => a c o h
theorem same_upd {H : Hp} {p : Addr} {o : HO} (n : H p = none) : Same H (upd H p o) := fun b u e => by
  rw [upd_ne (ne_of_none e n)]
  exact e
theorem same_free {H H' : Hp} (a : Same H H') {p : Addr} (n : H' p = none) : H p = none := a.free n
theorem kp_free {ex : List Addr} {H H' : Hp} (a : Kp ex H H') {p : Addr} (hp : p ∉ ex) (n : H' p = none) : H p = none := by
  cases q : H p with
  | none => rfl
  | some o =>
    rw [a p o hp q] at n
    cases n
/-- a tuple stays where only lists and dicts change -/
def Lists (ex : List Addr) (H : Hp) : Prop := ∀ b ∈ ex, ∃ o, H b = some o ∧ (∀ xs, o ≠ .tup xs) ∧ ∀ q xs, o ≠ .frz q (.tup xs)
theorem Kp.sqT {K : PySem.W.Frag} {ex : List Addr} {H H' : Hp} (k : Kp ex H H') (l : Lists ex H) {a : Addr} {xs : List V} (h : SqT K H a xs) : SqT K H' a xs := by
  have off : ∀ o, H a = some o → ((∃ ys, o = .tup ys) ∨ ∃ q ys, o = .frz q (.tup ys)) → a ∉ ex := by
    intro o e t m
    obtain ⟨u, e1, n1, n2⟩ := l a m
    have : o = u := Option.some.inj (e.symm.trans e1)
    subst this
    rcases t with ⟨ys, t⟩ | ⟨q, ys, t⟩
    · exact n1 ys t
    · exact n2 q ys t
  rcases h with (h | ⟨o, h⟩) | h
  · exact .inl (.inl (k _ _ (off _ h (.inl ⟨_, rfl⟩)) h))
  · exact .inl (.inr ⟨o, k _ _ (off _ h (.inr ⟨_, _, rfl⟩)) h⟩)
  · exact .inr h
theorem Kp.sqL {K : PySem.W.Frag} {ex : List Addr} {H H' : Hp} (k : Kp ex H H') {a : Addr} {xs : List V} (n : a ∉ ex) (h : SqL K H a xs) : SqL K H' a xs := by
  rcases h with (h | ⟨o, h⟩) | h
  · exact .inl (.inl (k _ _ n h))
  · exact .inl (.inr ⟨o, k _ _ n h⟩)
  · exact .inr h
theorem lists_nil (H : Hp) : Lists [] H := fun _ h => nomatch h
theorem Same.sqT {K : PySem.W.Frag} {H H' : Hp} (k : Same H H') {a : Addr} {xs : List V} (h : SqT K H a xs) : SqT K H' a xs := (Same.kp (ex := []) k).sqT (lists_nil H) h

/-- a map -/
structure Chart where
  n : Nat
  roads : List (Nat × Nat)
  wished : List Nat
/-- a row of pairs at the addresses ts -/
def PairsAt (K : PySem.W.Frag) (H : Hp) (ts : List Addr) (ps : List (Nat × Nat)) : Prop := Paired (fun (t : Addr) (p : Nat × Nat) => SqT K H t [vN p.1, vN p.2]) ts ps
structure ChartAt (K : PySem.W.Frag) (H : Hp) (c : Addr) (C : Chart) (r w : Addr) (ts : List Addr) : Prop where
  top : SqT K H c [vN C.n, .ref r, .ref w]
  row : SqT K H r (ts.map V.ref)
  prs : PairsAt K H ts C.roads
  wis : SqT K H w (C.wished.map vN)
def IsChart (K : PySem.W.Frag) (H : Hp) (c : Addr) (C : Chart) : Prop := ∃ r w ts, ChartAt K H c C r w ts
theorem paired_imp {α β : Type} {R S : α → β → Prop} (h : ∀ a b, R a b → S a b) : ∀ {as : List α} {bs : List β}, Paired R as bs → Paired S as bs
  | _, _, .nil => .nil
  | _, _, .cons r t => .cons (h _ _ r) (paired_imp h t)
theorem PairsAt.keep {K : PySem.W.Frag} {ex : List Addr} {H H' : Hp} (k : Kp ex H H') (l : Lists ex H) {ts : List Addr} {ps : List (Nat × Nat)} (h : PairsAt K H ts ps) : PairsAt K H' ts ps :=
  paired_imp (fun _ _ q => k.sqT l q) h
theorem ChartAt.keep {K : PySem.W.Frag} {ex : List Addr} {H H' : Hp} (k : Kp ex H H') (l : Lists ex H) {c r w : Addr} {C : Chart} {ts : List Addr} (h : ChartAt K H c C r w ts) : ChartAt K H' c C r w ts :=
  ⟨k.sqT l h.top, k.sqT l h.row, h.prs.keep k l, k.sqT l h.wis⟩
theorem IsChart.keep {K : PySem.W.Frag} {ex : List Addr} {H H' : Hp} (k : Kp ex H H') (l : Lists ex H) {c : Addr} {C : Chart} (h : IsChart K H c C) : IsChart K H' c C := let ⟨r, w, ts, q⟩ := h; ⟨r, w, ts, q.keep k l⟩
theorem IsChart.same {K : PySem.W.Frag} {H H' : Hp} (k : Same H H') {c : Addr} {C : Chart} (h : IsChart K H c C) : IsChart K H' c C := h.keep (Same.kp (ex := []) k) (lists_nil H)
theorem ChartAt.same {K : PySem.W.Frag} {H H' : Hp} (k : Same H H') {c r w : Addr} {C : Chart} {ts : List Addr} (h : ChartAt K H c C r w ts) : ChartAt K H' c C r w ts := h.keep (Same.kp (ex := []) k) (lists_nil H)
theorem paired_get {α β : Type} {R : α → β → Prop} : ∀ {as : List α} {bs : List β} {i : Nat} {b : β}, Paired R as bs → bs[i]? = some b → ∃ a, as[i]? = some a ∧ R a b
  | _, _, _, _, .nil, e => by simp at e
  | _, _, 0, _, .cons r _, e => by
    simp at e
    subst e
    exact ⟨_, rfl, r⟩
  | _, _, i + 1, b, .cons _ t, e => by
    obtain ⟨a, h1, h2⟩ := paired_get (i := i) t (by simpa using e)
    exact ⟨a, by simpa using h1, h2⟩
theorem paired_getL {α β : Type} {R : α → β → Prop} : ∀ {as : List α} {bs : List β} {i : Nat} {a : α}, Paired R as bs → as[i]? = some a → ∃ b, bs[i]? = some b ∧ R a b
  | _, _, _, _, .nil, e => by simp at e
  | _, _, 0, _, .cons r _, e => by
    simp at e
    subst e
    exact ⟨_, rfl, r⟩
  | _, _, i + 1, b, .cons _ t, e => by
    obtain ⟨a, h1, h2⟩ := paired_getL (i := i) t (by simpa using e)
    exact ⟨a, by simpa using h1, h2⟩
/-- the order of pairs -/
def ltP (p q : Nat × Nat) : Prop := p.1 < q.1 ∨ (p.1 = q.1 ∧ p.2 < q.2)
structure Chart.Ok (C : Chart) : Prop where
  n60 : C.n ≤ 60
  many : C.roads.length ≤ 240
  inR : ∀ p ∈ C.roads, p.1 < C.n ∧ p.2 < C.n
  upR : C.roads.Pairwise ltP
  inW : ∀ a ∈ C.wished, a < C.n
  upW : C.wished.Pairwise (· < ·)
/-- the builtins' names that the top has left alone, and its own two numbers -/
structure Txt (mg : Str → Option Value) : Prop where
  isinstance : mg "isinstance" = none
  len : mg "len" = none
  tuple : mg "tuple" = none
  int : mg "int" = none
  bool : mg "bool" = none
  enumerate : mg "enumerate" = none
  range : mg "range" = none
  set : mg "set" = none
  list : mg "list" = none
  sorted : mg "sorted" = none
  min : mg "min" = none
  max : mg "max" = none
  repr : mg "repr" = none
  dict : mg "dict" = none
  str : mg "str" = none
  any : mg "any" = none
  all : mg "all" = none
  sum : mg "sum" = none
  zip : mg "zip" = none
end Ft

set_option Elab.async false
set_option linter.all false
set_option maxRecDepth 100000
set_option maxHeartbeats 4000000
/-! An error of an own class with an own __init__, made where nothing is handled: its context is None. -/
namespace Ft
open PySem PySem.Spec PyProof.Rows L2
section
variable {X : Cx} {e : Expr} {es : List Expr} {ta : TA} {p pos : Pos}
theorem pmk_oexN {CX : CXT} {x : Str} {C fI : Addr} {k : Nat} {fd : FuncData} {ps : List Str} {sp : Sp} (T : OexC X.K C) (iC : PySem.W.findIn X.K (.ref C) "__init__" = some (some (.ref fI))) (tI : PySem.W.typeIn X.K (.ref fI) = some (.type "function"))
    (init : FnOk X.prog X.w X.K X.mg X.base CX k fI fd ps sp) (hr : Room (k + 1) X.A) (binds : Binds X.K fd ps []) (silent : Passes CX X (fun _ _ _ => False)) (hg : Gl X x) (hm : X.mg x = some (.ref C)) (ha : PA X (e :: es) ta)
    (hdb : (x == ("__debug__" : Str)) = false := by decide) (he : starEach (e :: es) X.env = (false, eval e X.env) :: starEach es X.env := by rfl) (hpl : (backTo pos (starEach es X.env)).any (·.1) = false := by rfl) :
    L2N.PMk X (.Call (.Name x p) (e :: es) [] pos) (tMkO C sp [] ta) := by
  intro pins s σ H Q I h
  obtain ⟨nm, q, N, bs, bm, sn, sub, ab, col, dd, c0, c1, c2, c3, c5, stands, flags⟩ := T.cls
  refine wpAny_Call_Name_kw (ld_glob I hg hm (PySem.W.callWith_K (h₀ := X.base) I.ok.mod.kin T.kC (thn (ha.run pos pins s σ H _ I h) fun us s1 ran => ?_) he hpl) hdb)
  obtain ⟨vs, H1, I1, rel, few, told⟩ := ran
  refine ⟨I1.kIn, ?_⟩
  obtain ⟨hp, gens, drawn, toks, os⟩ := s1
  have above : hp.objs.size ≤ hp.objs.size + 1 := Nat.le_succ _
  have wish := told (hp.objs.size + 1) (I1.hok.fresh above)
  rw [List.append_nil] at wish
  have made : ((hp.push (PySem.W.kdv_tup us)).push (PySem.HandSPX.excO C hp.objs.size)).get? (hp.objs.size + 1) = some (PySem.HandSPX.excO C hp.objs.size) := by heap_get
  have old : ∀ b o, hp.get? b = some o → ((hp.push (PySem.W.kdv_tup us)).push (PySem.HandSPX.excO C hp.objs.size)).get? b = some o := fun b o z => Heap.get?_push_of_some _ (Heap.get?_push_of_some _ z)
  have I2 : Inv X pins σ (upd H1 (hp.objs.size + 1) (exo (hp.objs.size + 1) C none)) ⟨(hp.push (PySem.W.kdv_tup us)).push (PySem.HandSPX.excO C hp.objs.size), gens, drawn, toks, os⟩ := I1.laid (t' := toks) old above (exo_ok made)
  have rel2 : Vals (V.ref (hp.objs.size + 1) :: vs) (Value.ref (hp.objs.size + 1) :: us) := .cons rfl rel
  have size : (Value.ref (hp.objs.size + 1) :: us).length = ps.length := rel2.length.symm.trans (init.len _ _ _ _ wish)
  have bound := binds _ (Value.ref (hp.objs.size + 1) :: us) I2.kIn (by rw [List.append_nil]; exact size)
  rw [List.append_nil] at bound
  have fits : us.length ≤ sizeLine := by
    have := Paired.length rel
    rw [sizeLine_eq]
    omega
  refine wpAny_call (PySem.HandSPX.call_own F.excBase_ValueError (fun Y => PySem.HandSPX.refsVE_contains Y bm flags) (I1.kIn _ _ stands) (PySem.W.looks_findIn I1.kIn iC) (fun self => PySem.W.bind_fn I1.kIn self tI) fits ?_)
  refine codeAny_mono (init.run _ X.stack _ _ ⟨Value.ref (hp.objs.size + 1) :: us, []⟩ _ _ _ (fun _ _ _ => False) (hr.make C us []) (I2.env0.make C us []) bound rel2 wish) fun r s2 ended => ?_
  rcases r with er | (_ | _ | _ | u)
  · exact silent pins σ _ _ er s2 I2 ended
  all_goals first | exact False.elim ended | skip
  obtain ⟨v, H2, eos, bare, un, hok, rv, rfl, d, fs, ea, ed, free, q2⟩ := ended
  obtain ⟨h2, gens2, drawn2, toks2, os2⟩ := s2
  refine ⟨rv, ?_⟩
  obtain ⟨t0, G, J, back, gone, whole, na⟩ := mk_end0 (d2 := drawn2) (t2 := toks2) I1 above old un hok eos bare ea ed free
  exact ⟨hp.objs.size + 1, _, _, ⟨G, gens2, drawn2, toks2, os2⟩, _, .ref C, some d, rfl, J, back, gone, whole, ⟨rfl, rfl, fun fields z => by cases z; rfl⟩, rfl, rfl, na, rfl, bare, raises_own T.exC T.tyC, q2⟩
end
end Ft

set_option Elab.async false
set_option linter.all false
set_option maxRecDepth 100000
set_option maxHeartbeats 4000000
/-! Errors of own classes that share one __init__(self, what): raised, let through by a def, caught. -/
namespace Ft
open PySem PySem.Spec PyProof.Rows L2
/-- the class x of the text, at C; fI: the __init__ that it has -/
structure ErrC (K : PySem.W.Frag) (mg : Str → Option Value) (x : Str) (C fI : Addr) : Prop where
  g : mg x = some (.ref C)
  oex : OexC K C
  iC : PySem.W.findIn K (.ref C) "__init__" = some (some (.ref fI))
  tI : PySem.W.typeIn K (.ref fI) = some (.type "function")
  noW : PySem.W.findIn K (.ref C) "what" = some none
  xf : XfC K C
/-- __init__(self, what) -/
def spInit (K : PySem.W.Frag) : Sp := fun vs H Q _ => ∃ (a C : Addr) (v : V), vs = [.ref a, v] ∧ OexC K C ∧ PySem.W.findIn K (.ref C) "what" = some none ∧ H a = some (exo a C none) ∧
  ∀ dx, H dx = none → dx ≠ a → Q .non (upd (upd H dx (exd dx [("what", v)])) a (exo a C (some dx)))
/-- an error that may be raised -/
structure Er (P : Program) (w : World) (K : PySem.W.Frag) (mg : Str → Option Value) (base : Heap) (ca : Str → Addr) (x : Str) : Prop where
  ex : ∃ (fI : Addr) (fd : FuncData), ErrC K mg x (ca x) fI ∧ FnOk P w K mg base L2.CX0 1 fI fd ["self", "what"] (spInit K) ∧ Binds K fd ["self", "what"] []
theorem Er.c {P : Program} {w : World} {K : PySem.W.Frag} {mg : Str → Option Value} {base : Heap} {ca : Str → Addr} {x : Str} (e : Er P w K mg base ca x) : ∃ fI, ErrC K mg x (ca x) fI := let ⟨fI, _, h, _⟩ := e.ex; ⟨fI, h⟩
theorem upd_del {H : Hp} {a d : Addr} {o : HO} {u v : HO} {w : HO} (na : H a = none) (hd : d ≠ a) : upd (del (upd (upd (upd H a o) d u) a v) a) d w = upd H d w := by
  funext b
  by_cases h1 : b = d
  · rw [h1, upd_same, upd_same]
  · rw [upd_ne h1, upd_ne h1]
    by_cases h2 : b = a
    · rw [h2, del_same, na]
    · rw [del_ne h2, upd_ne h2, upd_ne h1, upd_ne h2]
theorem passF {X : Cx} {E : XK} : Passes L2.CX0 X E := fun _ _ _ _ _ _ _ h => h.elim
def tMidA (ta : TA) : TA := fun σ H Q => ∃ M : List V → Hp → Prop, ta σ H M ∧ ∀ vs H', M vs H' → Q vs H'
theorem pa_mid {X : Cx} {es : List Expr} {ta : TA} (h : PA X es ta) : PA X es (tMidA ta) := by
  refine ⟨fun pos pins s σ H Q I ⟨M, hm, hu⟩ => ?_⟩
  exact thn (h.run pos pins s σ H M I hm) fun us s1 ⟨vs, H1, I1, r, m⟩ => ⟨vs, H1, I1, r, hu vs H1 m⟩
/-- raise x(e) -/
def tRaise (C : Addr) (W : WX) (ta : TA) : TS := fun _ σ H => ta σ H fun vs H1 => ∃ v, vs = [v] ∧ ∀ d, H1 d = none → W (.ref C) (some d) σ (upd H1 d (.xd [("what", v)]))
section
variable {X : Cx} {ca : Str → Addr} {x : Str} {W : WX} {e : Expr} {es : List Expr} {ta : TA} {p pos pos2 : Pos} {k : Nat}
theorem ps_raiseE (hc : X.calm = true) (er : Er X.prog X.w X.K X.mg X.base ca x) (hr : Room k X.A) (hk : 2 ≤ k) (tk : L2N.Takes X W) (hg : Gl X x) (ha : PA X (e :: es) ta)
    (hdb : (x == ("__debug__" : Str)) = false := by decide) (he : starEach (e :: es) X.env = (false, eval e X.env) :: starEach es X.env := by rfl) (hpl : (backTo pos (starEach es X.env)).any (·.1) = false := by rfl) :
    PS X (.Raise (some (.Call (.Name x p) (e :: es) [] pos)) none pos2) (tRaise (ca x) W ta) := by
  obtain ⟨fI, fd, c, F, b⟩ := er.ex
  refine ⟨fun pins s σ H D I h => ?_⟩
  refine (L2N.ps_raise (pos := pos2) hc tk (pmk_oexN (pos := pos) (p := p) c.oex c.iC c.tI F (hr.mono hk) b passF hg c.g (pa_mid ha) hdb he hpl)).run pins s σ H D I ?_
  have imp : ∀ vs H1, (∃ v, vs = [v] ∧ ∀ d, H1 d = none → W (.ref (ca x)) (some d) σ (upd H1 d (.xd [("what", v)]))) →
      vs.length ≤ 1000 ∧ ∀ a, H1 a = none → spInit X.K (.ref a :: (vs ++ [])) (upd H1 a (exo a (ca x) none)) (fun v H2 => v = .non ∧ ∃ (d : Addr) (fs : List (Str × V)), H2 a = some (exo a (ca x) (some d)) ∧ H2 d = some (exd d fs) ∧ H1 d = none ∧ W (.ref (ca x)) (some d) σ (upd (del H2 a) d (.xd fs))) (fun _ _ _ => False) := by
    rintro vs H1 ⟨v, rfl, q⟩
    refine ⟨by simp, fun a na => ⟨a, ca x, v, rfl, c.oex, c.noW, upd_same, fun dx ndx hda => ⟨rfl, dx, [("what", v)], upd_same, ?_, ?_, ?_⟩⟩⟩
    · rw [upd_ne hda, upd_same]
    · rwa [upd_ne hda] at ndx
    · rw [upd_del na hda]
      rw [upd_ne hda] at ndx
      exact q dx ndx
  exact ⟨_, h, imp⟩
end
/-! ### defs that may raise -/
structure CalX (P : Program) (w : World) (K : PySem.W.Frag) (mg : Str → Option Value) (base : Heap) (k : Nat) (x : Str) (sp : Sp) : Prop where
  ex : ∃ (f : Addr) (fd : FuncData) (ps : List Str), FnOk P w K mg base (L2N.CX P w) k f fd ps sp ∧ mg x = some (.ref f) ∧ PySem.W.keepIn K (.ref f) = true ∧ Binds K fd ps []
theorem pe_x {X : Cx} {k j : Nat} {x : Str} {sp : Sp} {W : WX} {p pos : Pos} {e : Expr} {es : List Expr} {t : TA} (tk : L2N.Takes X W) (c : CalX X.prog X.w X.K X.mg X.base k x sp) (hr : Room j X.A) (hk : k ≤ j) (hg : Gl X x) (ha : PA X (e :: es) t)
    (hdb : (x == ("__debug__" : Str)) = false := by decide) (he : starEach (e :: es) X.env = (false, eval e X.env) :: starEach es X.env := by rfl) (hpl : (backTo pos (starEach es X.env)).any (·.1) = false := by rfl) :
    PE X (.Call (.Name x p) (e :: es) [] pos) (tCallS sp (WE W) t) := by
  obtain ⟨f, fd, ps, F, hm, kp, b⟩ := c.ex
  exact pe_callS F (hr.mono hk) hg hm kp b (fun σ => L2N.passAt tk σ) ha hdb he hpl
theorem okN {P : Program} {w : World} {K : PySem.W.Frag} {mg : Str → Option Value} {base : Heap} {x qual : Str} {st : Stmt} {f : Addr} {fd : FuncData} {N ps : List Str} {k : Nat} {sp : Sp} (F : L2.Fun K x qual st f fd) (S : FnScope N ps (L2.defScope st)) (len : ∀ vs H Q E, sp vs H Q E → vs.length = ps.length)
    (body : ∀ (cdv : Value) (A : Around) (outer : List Env) (s : Shared) (H : Hp) (vs : List V) (Q : VK) (E : XK), Room k (A.deeper (envOfC qual (L2.defScope st) s.heap.objs.size f cdv)) → sp vs H Q E →
      ∃ t, PSs (cxOf (L2N.CX P w) P w K mg base N qual (L2.defScope st) f cdv A outer s H E) (L2.defBody st) t ∧ t { nx := fun _ H' => Q .non H', rt := Q } (start N vs) H) : FnOk P w K mg base (L2N.CX P w) (k + 1) f fd ps sp := by
  obtain ⟨_, _, _, _, _, _, cdv, _, _, rfl, at_, code⟩ := F.ex
  exact fn_of at_ code S len fun A outer s H vs Q E => body cdv A outer s H vs Q E
theorem calx_of {P : Program} {w : World} {K : PySem.W.Frag} {mg : Str → Option Value} {base : Heap} {x : Str} {st : Stmt} {N ps : List Str} {k : Nat} {sp : Sp} (D : Def K mg x st) (S : FnScope N ps (L2.defScope st))
    (bd : ∀ (kV doc pm : Value) (an : Option Addr) (cdv ct : Value) (us : List Value), us.length = ps.length → bindArgs (PySem.W.fnOf x x (L2.defArgs st) (L2.defBody st) (L2.defScope st) .none kV doc pm an cdv ct) ⟨us, []⟩ = pure (ps.zip us))
    (len : ∀ vs H Q E, sp vs H Q E → vs.length = ps.length)
    (body : ∀ (f : Addr) (cdv : Value) (A : Around) (outer : List Env) (s : Shared) (H : Hp) (vs : List V) (Q : VK) (E : XK), Room k (A.deeper (envOfC x (L2.defScope st) s.heap.objs.size f cdv)) → sp vs H Q E →
      ∃ t, PSs (cxOf (L2N.CX P w) P w K mg base N x (L2.defScope st) f cdv A outer s H E) (L2.defBody st) t ∧ t { nx := fun _ H' => Q .non H', rt := Q } (start N vs) H) : CalX P w K mg base (k + 1) x sp := by
  obtain ⟨f, fd, F, hm⟩ := D.ex
  exact ⟨f, fd, ps, okN F S len (body f), hm, F.kp, F.binds bd⟩
/-- .. where nothing is raised -/
theorem fnOk_valid {P : Program} {w : World} {K : PySem.W.Frag} {mg : Str → Option Value} {base : Heap} {k : Nat} {f : Addr} {fd : FuncData} {ps : List Str} {sp sp' : Sp} (F : FnOk P w K mg base (L2N.CX P w) k f fd ps sp)
    (h : ∀ vs H Q E, sp' vs H Q E → sp vs H Q L2.E0) : FnOk P w K mg base L2.CX0 k f fd ps sp' :=
  ⟨fun vs H Q E q => F.len vs H Q _ (h _ _ _ _ q), fun A outer s H args us vs Q E hr he hb hv hs => codeAny_mono (F.run A outer s H args us vs Q L2.E0 hr he hb hv (h _ _ _ _ hs)) fun r s' hq => by
    cases r with
    | error e =>
      obtain ⟨_, _, _, _, _, _, _, _, _, _, _, _, z⟩ := hq
      exact z.elim
    | ok fl => cases fl <;> exact hq⟩
theorem CalX.valid {P : Program} {w : World} {K : PySem.W.Frag} {mg : Str → Option Value} {base : Heap} {k : Nat} {x : Str} {sp sp' : Sp} (c : CalX P w K mg base k x sp) (h : ∀ vs H Q E, sp' vs H Q E → sp vs H Q L2.E0) : Cal P w K mg base k x sp' := by
  obtain ⟨f, fd, ps, F, hm, kp, b⟩ := c.ex
  exact ⟨f, fd, ps, fnOk_valid F h, hm, kp, b⟩
theorem Cal.imp {P : Program} {w : World} {K : PySem.W.Frag} {mg : Str → Option Value} {base : Heap} {k : Nat} {x : Str} {sp sp' : Sp} (c : Cal P w K mg base k x sp) (h : ∀ vs H Q E, sp' vs H Q E → sp vs H Q E) : Cal P w K mg base k x sp' := by
  obtain ⟨f, fd, ps, F, hm, kp, b⟩ := c.ex
  exact ⟨f, fd, ps, F.imp h, hm, kp, b⟩
/-- what is wanted of an error e, of all that may leave -/
def Raised (K : PySem.W.Frag) (ca : Str → Addr) (H : Hp) (E : XK) (e : Str × PyData) : Prop := ∀ (d : Addr) (H' : Hp) (v : V), Same H H' → H' d = some (.xd [("what", v)]) → Dp K H' v e.2 → E (.ref (ca e.1)) (some d) H'
theorem Raised.same {K : PySem.W.Frag} {ca : Str → Addr} {H H1 : Hp} {E : XK} {e : Str × PyData} (r : Raised K ca H E e) (s : Same H H1) : Raised K ca H1 E e := fun d H' v s' hd hv => r d H' v (s.trans s') hd hv
end Ft

set_option Elab.async false
set_option linter.all false
set_option maxRecDepth 100000
set_option maxHeartbeats 4000000
/-! Several except clauses, each with a name or without. -/
namespace Ft
open PySem PySem.Spec PyProof.Rows L2
theorem takesN0 {X : Cx} : L2N.Takes X (fun _ _ _ _ => False) := fun _ _ ⟨_, _, _, _, _, _, _, _, _, _, _, _, _, _, _, _, z⟩ => z.elim
abbrev Hd := Value × Option Nat × (Addr → Value → Option Addr → TS)
def gone (i : Nat) (D : Ends) : Ends := { nx := fun σ' H' => D.nx (σ'.set i none) H', rt := D.rt, bk := fun σ' H' => D.bk (σ'.set i none) H', ct := fun σ' H' => D.ct (σ'.set i none) H' }
def wHd (o : Option Nat) (ts : Addr → Value → Option Addr → TS) (a : Addr) (cls : Value) (d : Option Addr) (D : Ends) (σ : L2.St) (H : Hp) : Prop := match o with
  | none => ts a cls d D σ H
  | some i => ts a cls d (gone i D) (σ.set i (some (.ref a))) H
/-- what the clauses wish of an exception of the body -/
def wMs (K : PySem.W.Frag) (n : Nat) (Wout : WX) (D : Ends) : List Hd → WX
  | [] => Wout
  | (c, o, ts) :: r => fun cls d σ H => ∃ b, PySem.W.exmOne K cls c = some b ∧ (b = true → ∀ a, H a = none → σ.length = n → wHd o ts a cls d D σ H) ∧ (b = false → wMs K n Wout D r cls d σ H)
inductive HdsA (X : Cx) : List ExceptHandler → List Hd → Prop
  | nil : HdsA X [] []
  | no {x : Str} {c : Value} {ts : Addr → Value → Option Addr → TS} {b₀ : Stmt} {suite : List Stmt} {np pos' : Pos} {hds : List ExceptHandler} {l : List Hd} (hc : Names X x c)
      (hsu : ∀ (a : Addr) (oe : Obj) (cls : Value) (d : Option Addr) (pn : List (Addr × Obj)), L2N.Zn cls d oe → (∃ vs, oe.data = .fields vs) → PSs (X.suite a ((a, oe) :: pn)) (b₀ :: suite) (ts a cls d)) (r : HdsA X hds l) :
      HdsA X (.ExceptHandler (some (.Name x np)) none (b₀ :: suite) pos' :: hds) ((c, none, ts) :: l)
  | as {x n : Str} {c : Value} {i : Nat} {ts : Addr → Value → Option Addr → TS} {b₀ : Stmt} {suite : List Stmt} {np pos' : Pos} {hds : List ExceptHandler} {l : List Hd} (hi : X.N[i]? = some n) (hln : X.env.kindOf n = some .local) (hc : Names X x c)
      (hsu : ∀ (a : Addr) (oe : Obj) (cls : Value) (d : Option Addr) (pn : List (Addr × Obj)), L2N.Zn cls d oe → (∃ vs, oe.data = .fields vs) → PSs (X.suite a ((a, oe) :: pn)) (b₀ :: suite) (ts a cls d)) (r : HdsA X hds l) :
      HdsA X (.ExceptHandler (some (.Name x np)) (some n) (b₀ :: suite) pos' :: hds) ((c, some i, ts) :: l)
section
variable {X : Cx} {body : List Stmt} {h₀ : ExceptHandler} {hds : List ExceptHandler} {l : List Hd} {pos : Pos} {tb : WX → TS} {Wout : WX}
theorem ps_try_ms (hs : X.stack = X.env :: X.outer) (hf : X.env.frame = some X.env.locals) (hN : X.N.Nodup) (tk : L2N.Takes X Wout)
    (hb : ∀ (W : WX) (pn : List (Addr × Obj)) (xe : Value → Shared → Prop), L2N.Takes (X.tr pn xe) W → PassesOwn (model X.prog X.w) X.A X.env xe → PSs (X.tr pn xe) body (tb W))
    (hh : HdsA X (h₀ :: hds) l) : PS X (.Try body (h₀ :: hds) [] [] pos) (fun D σ H => tb (wMs X.K X.N.length Wout D l) D σ H) := by
  refine ⟨fun pins s σ H D I h => ?_⟩
  have ok := I.ok
  have hfr : X.A.frames = some (X.env :: X.outer) := by rw [ok.frames, hs]
  refine wpAny_Try_except ?_
  refine wpAny_mono ((hb (wMs X.K X.N.length Wout D l) (X.pn ++ pins) (fun e s₁ => wpAny (model X.prog X.w) X.A (noteFrame e X.env) (fun _ s₂ => wpAny (model X.prog X.w) X.A (setFlight e none) (fun _ s₃ =>
    wpAny (model X.prog X.w) X.A (handleBy e X.env (h₀ :: hds)) (SP X pins D) X.xe s₃) X.xe s₂) X.xe s₁) (fun u s' xx => ?_) PassesOwn.looking).run [] s σ H D (I.toTry _) h) (fun f s1 hsp => ?_) (fun e s1 he => he)
  · -- the catch
    obtain ⟨a, B, sI, pins', σ', H', cls, d, rfl, J', nb, up, sky, na, os, ag, w⟩ := xx
    have J : Inv X pins σ' H' sI := J'.ofTry ok
    have sky' : Sky B (X.env :: X.outer) a (L2N.Zn cls d) X.env.locals s'.heap := by rw [← hs]; exact sky
    show wpAny (model X.prog X.w) X.A (noteFrame (.ref a) X.env) _ _ _
    refine L2N.Sky.land L2N.Zn.steady hfr hf sky' fun h3 fl3 up3 => ?_
    have J3 : Inv X pins σ' H' { s' with heap := h3 } := J.landed nb fl3.1 (up.trans up3) os ag
    obtain ⟨oe3, vs3, he3, hz3, hd3⟩ := fl3.there
    have notFr : ∀ {h : Heap} {o : Obj} {vs : Array Value}, h.FunFrames B (X.env :: X.outer) → h.get? a = some o → o.data = .fields vs → a ∉ frs (X.env :: X.outer) := fun {h o vs} ff e dd hm => by
      obtain ⟨_, o', e', hnf⟩ := ff.mem hm
      rw [e] at e'; cases e'
      exact hnf _ dd
    have nfr := notFr fl3.2.2.1 he3 hd3
    have nL : a ≠ X.env.locals := fun z => nfr (List.mem_filterMap.mpr ⟨X.env, List.mem_cons_self, by rw [hf, z]⟩)
    have nF : a ∉ X.fs := fun hm => by
      obtain ⟨e, he, q⟩ := List.mem_filterMap.mp hm
      exact nfr (List.mem_filterMap.mpr ⟨e, List.mem_cons_of_mem _ he, q⟩)
    have S3 := J3.suite he3 hd3 na nL nF
    have LT : PySem.W.Looks (model X.prog X.w) h3 (typeOf (.ref a)) cls := fun A Q E s k q => wpAny_typeOf_ref (k _ _ he3) (by rw [hz3.1]; exact q)
    have test : ∀ {x : Str} {c : Value} {np : Pos} (hc : Names X x c) {Q : Value → Shared → Prop} {E : Value → Shared → Prop}, Q c { s' with heap := h3 } → wpAny (model X.prog X.w) (X.A.mark (some (.ref a))) (eval (.Name x np) X.env) Q E { s' with heap := h3 } := fun {x c np} hc {Q E} q => by
      obtain ⟨hg, hdbg, hm | ⟨hm, hv, hnn⟩⟩ := hc
      · exact ld_glob (X := X.suite a ((a, oe3) :: (X.pn ++ pins))) S3 hg hm q hdbg
      · exact ld_blt (X := X.suite a ((a, oe3) :: (X.pn ++ pins))) S3 hg hm hv q hnn hdbg
    have go : ∀ {hds' : List ExceptHandler} {l' : List Hd}, HdsA X hds' l' → wMs X.K X.N.length Wout D l' cls d σ' H' →
        wpAny (model X.prog X.w) X.A (handleBy (.ref a) X.env hds') (SP X pins D) X.xe { s' with heap := h3 } := by
      intro hds' l' hk
      induction hk with
      | nil =>
        intro w
        refine wpAny_handleBy_nil ?_
        obtain ⟨k1, k2, k3, oe, vs, T, oT, ts', he, hz, hd, h1, hr⟩ := id fl3
        unfold PySem.passOn
        refine wpAny_bind (wpAny_field he hd h1 ?_)
        rw [if_neg (show ¬ ((Value.ref T == Value.none) = true) from by simp)]
        have fin : wpAny (model X.prog X.w) X.A (setFlight (.ref a) X.env.frame) (fun _ s4 => wpAny (model X.prog X.w) X.A (throw (.ref a) : Sem Flow) (SP X pins D) X.xe s4) X.xe { s' with heap := h3 } := by
          rw [hf]
          refine HandSPX.setFlight_upZ fl3 fun h4 hh4 up4 => wpAny_throw (tk _ _ ?_)
          exact ⟨a, B, sI, pins, σ', H', cls, d, rfl, J, nb, (up.trans up3).trans up4, .inr (.inr (by rw [hs]; exact hh4)), na, os, ag, w⟩
        first
          | exact wpAny_bind (wpAny_pure (wpAny_bind fin))
          | exact wpAny_bind fin
      | @no x c ts b₀ suite np pos' hds2 l2 hc hsu r ih =>
        intro w
        obtain ⟨b, hb1, hyes, hno⟩ := w
        have LM := PySem.W.exm_one (M := model X.prog X.w) (J3.kIn) LT hb1
        refine wpAny_handleBy_cons (codeAny_handlers_test ?_) (by intro q; cases q)
        refine test hc (LM.here ?_)
        cases b with
        | true =>
          refine codeAny_handlers_suite ?_
          refine HandSPX.lands_againZ fl3 fun h4 fl4 up4 => ?_
          have J4 : Inv X pins σ' H' { s' with heap := h4 } := J.landed nb fl4.1 ((up.trans up3).trans up4) os ag
          obtain ⟨oe4, vs4, he4, hz4, hd4⟩ := fl4.there
          have S4 := J4.suite he4 hd4 na nL nF
          refine wpAny_mono ((hsu a oe4 cls d (X.pn ++ pins) hz4 ⟨_, hd4⟩).run [] _ _ H' _ S4 (hyes rfl a na J.len)) (fun f s6 hsp => ?_) (fun _ _ z => False.elim z)
          cases f with
          | next =>
            obtain ⟨σ6, H6, S6, q6⟩ := hsp
            exact ⟨_, _, S6.unsuite ok, q6⟩
          | brk =>
            obtain ⟨σ6, H6, S6, q6⟩ := hsp
            exact ⟨_, _, S6.unsuite ok, q6⟩
          | cont =>
            obtain ⟨σ6, H6, S6, q6⟩ := hsp
            exact ⟨_, _, S6.unsuite ok, q6⟩
          | ret u =>
            obtain ⟨v6, σ6, H6, S6, r6, q6⟩ := hsp
            exact ⟨_, _, _, S6.unsuite ok, r6, q6⟩
        | false =>
          show wpAny _ X.A (handleBy (.ref a) X.env hds2) _ _ _
          exact ih (hno rfl)
      | @as x n c i ts b₀ suite np pos' hds2 l2 hi hln hc hsu r ih =>
        intro w
        obtain ⟨b, hb1, hyes, hno⟩ := w
        have LM := PySem.W.exm_one (M := model X.prog X.w) (J3.kIn) LT hb1
        refine wpAny_handleBy_cons (codeAny_handlers_test ?_) (by intro q; cases q)
        refine test hc (LM.here ?_)
        cases b with
        | true =>
          refine codeAny_handlers_suite_as ?_
          refine HandSPX.lands_againZ fl3 fun h4 fl4 up4 => ?_
          have J4 : Inv X pins σ' H' { s' with heap := h4 } := J.landed nb fl4.1 ((up.trans up3).trans up4) os ag
          obtain ⟨oe4, vs4, he4, hz4, hd4⟩ := fl4.there
          have S4 := J4.suite he4 hd4 na nL nF
          refine store_ok (X := X.suite a ((a, oe4) :: (X.pn ++ pins))) (v := .ref a) S4 hN hi (.inl hln) rfl (fun s5 S5 => ?_) (.inr hln)
          refine wpAny_mono ((hsu a oe4 cls d (X.pn ++ pins) hz4 ⟨_, hd4⟩).run [] s5 _ H' _ S5 (hyes rfl a na J.len)) (fun f s6 hsp => ?_) (fun _ _ z => False.elim z)
          have end_ : ∀ {σ6 : L2.St} {H6 : Hp} {Q : Shared → Prop}, Inv (X.suite a ((a, oe4) :: (X.pn ++ pins))) [] σ6 H6 s6 → (∀ s7, Inv X pins (σ6.set i none) H6 s7 → Q s7) →
              wpAny (model X.prog X.w) X.A (do bindName X.env n .none; unbindBehindTheSuite X.env n pos') (fun _ s7 => Q s7) X.xe s6 := fun {σ6 H6 Q} S6 hq => gone_ok (S6.unsuite ok) hN hi hln hq
          cases f with
          | next =>
            obtain ⟨σ6, H6, S6, q6⟩ := hsp
            exact end_ S6 fun s7 J7 => ⟨_, _, J7, q6⟩
          | brk =>
            obtain ⟨σ6, H6, S6, q6⟩ := hsp
            exact end_ S6 fun s7 J7 => ⟨_, _, J7, q6⟩
          | cont =>
            obtain ⟨σ6, H6, S6, q6⟩ := hsp
            exact end_ S6 fun s7 J7 => ⟨_, _, J7, q6⟩
          | ret u =>
            obtain ⟨v6, σ6, H6, S6, r6, q6⟩ := hsp
            exact end_ S6 fun s7 J7 => ⟨_, _, _, J7, r6, q6⟩
        | false =>
          show wpAny _ X.A (handleBy (.ref a) X.env hds2) _ _ _
          exact ih (hno rfl)
    exact go hh w
  · cases f with
    | next =>
      obtain ⟨σ', H', J', q⟩ := hsp
      exact wpAny_execs_nil ⟨σ', H', J'.ofTry ok, q⟩
    | brk =>
      obtain ⟨σ', H', J', q⟩ := hsp
      exact ⟨σ', H', J'.ofTry ok, q⟩
    | cont =>
      obtain ⟨σ', H', J', q⟩ := hsp
      exact ⟨σ', H', J'.ofTry ok, q⟩
    | ret u =>
      obtain ⟨v, σ', H', J', r, q⟩ := hsp
      exact ⟨v, σ', H', J'.ofTry ok, r, q⟩
end
end Ft

set_option Elab.async false
set_option linter.all false
set_option maxRecDepth 100000
set_option maxHeartbeats 4000000
/-! Data as it lies in the heap, and what the program's judges say of it. -/
namespace Ft
open PySem PySem.Spec PyProof.Rows L2
/-! ### data stay -/
theorem Same.sqL {K : PySem.W.Frag} {H H' : Hp} (k : Same H H') {a : Addr} {xs : List V} (h : SqL K H a xs) : SqL K H' a xs := (Same.kp (ex := []) k).sqL (by simp) h
mutual
theorem dp_same {K : PySem.W.Frag} {H H' : Hp} (s : Same H H') : ∀ (d : PyData) (v : V), Dp K H v d → Dp K H' v d
  | .none, _, h => by cases h; exact .non
  | .bool _, _, h => by cases h; exact .bl _
  | .int _, _, h => by cases h; exact .int _
  | .str _, _, h => by cases h; exact .str _
  | .list ds, _, h => by
    cases h with
    | lst h a => exact .lst (Same.sqL s h) (dp_sames s ds _ a)
  | .tuple ds, _, h => by
    cases h with
    | tup h a => exact .tup (Same.sqT s h) (dp_sames s ds _ a)
  | .dict _, _, h => by cases h
theorem dp_sames {K : PySem.W.Frag} {H H' : Hp} (s : Same H H') : ∀ (ds : List PyData) (vs : List V), DpAll K H vs ds → DpAll K H' vs ds
  | [], _, h => by cases h; exact .nil
  | d :: ds, _, h => by
    cases h with
    | cons h1 h2 => exact .cons (dp_same s d _ h1) (dp_sames s ds _ h2)
end
theorem Dp.same {K : PySem.W.Frag} {H H' : Hp} (s : Same H H') {d : PyData} {v : V} (h : Dp K H v d) : Dp K H' v d := dp_same s d v h
theorem DpAll.same {K : PySem.W.Frag} {H H' : Hp} (s : Same H H') {ds : List PyData} {vs : List V} (h : DpAll K H vs ds) : DpAll K H' vs ds := dp_sames s ds vs h
/-! no list in it -/
mutual
def noList : PyData → Bool
  | .list _ => false
  | .tuple ds => noLists ds
  | _ => true
def noLists : List PyData → Bool
  | [] => true
  | d :: ds => noList d && noLists ds
end
mutual
theorem dp_kp {K : PySem.W.Frag} {ex : List Addr} {H H' : Hp} (k : Kp ex H H') (l : Lists ex H) : ∀ (d : PyData) (v : V), noList d = true → Dp K H v d → Dp K H' v d
  | .none, _, _, h => by cases h; exact .non
  | .bool _, _, _, h => by cases h; exact .bl _
  | .int _, _, _, h => by cases h; exact .int _
  | .str _, _, _, h => by cases h; exact .str _
  | .list ds, _, n, h => by simp [noList] at n
  | .tuple ds, _, n, h => by
    cases h with
    | tup h a => exact .tup (k.sqT l h) (dp_kps k l ds _ (by simpa [noList] using n) a)
  | .dict _, _, _, h => by cases h
theorem dp_kps {K : PySem.W.Frag} {ex : List Addr} {H H' : Hp} (k : Kp ex H H') (l : Lists ex H) : ∀ (ds : List PyData) (vs : List V), noLists ds = true → DpAll K H vs ds → DpAll K H' vs ds
  | [], _, _, h => by cases h; exact .nil
  | d :: ds, _, n, h => by
    simp only [noLists, Bool.and_eq_true] at n
    cases h with
    | cons h1 h2 => exact .cons (dp_kp k l d _ n.1 h1) (dp_kps k l ds _ n.2 h2)
end
theorem dpAll_length {K : PySem.W.Frag} {H : Hp} : ∀ {vs : List V} {ds : List PyData}, DpAll K H vs ds → vs.length = ds.length
  | _, _, .nil => rfl
  | _, _, .cons _ t => by rw [List.length_cons, List.length_cons, dpAll_length t]
theorem dpAll_get {K : PySem.W.Frag} {H : Hp} : ∀ {vs : List V} {ds : List PyData} {i : Nat} {v : V}, DpAll K H vs ds → vs[i]? = some v → ∃ d, ds[i]? = some d ∧ Dp K H v d
  | _, _, _, _, .nil, e => by simp at e
  | _, _, 0, _, .cons r _, e => by
    simp at e
    subst e
    exact ⟨_, rfl, r⟩
  | _, _, i + 1, _, .cons _ t, e => by
    obtain ⟨d, h1, h2⟩ := dpAll_get (i := i) t (by simpa using e)
    exact ⟨d, by simpa using h1, h2⟩
theorem dpAll_getD {K : PySem.W.Frag} {H : Hp} : ∀ {vs : List V} {ds : List PyData} {i : Nat} {d : PyData}, DpAll K H vs ds → ds[i]? = some d → ∃ v, vs[i]? = some v ∧ Dp K H v d
  | _, _, _, _, .nil, e => by simp at e
  | _, _, 0, _, .cons r _, e => by
    simp at e
    subst e
    exact ⟨_, rfl, r⟩
  | _, _, i + 1, _, .cons _ t, e => by
    obtain ⟨d, h1, h2⟩ := dpAll_getD (i := i) t (by simpa using e)
    exact ⟨d, by simpa using h1, h2⟩
/-! ### isinstance of data -/
def tyD : PyData → String
  | .none => "NoneType"
  | .bool _ => "bool"
  | .int _ => "int"
  | .str _ => "str"
  | .list _ => "list"
  | .tuple _ => "tuple"
  | .dict _ => "dict"
theorem isi_dp {K : PySem.W.Frag} {H : Hp} {v : V} {d : PyData} (h : Dp K H v d) : TyX K H v (.type (tyD d)) := by
  cases h with
  | non => exact .base .non
  | bl b => exact .base (.bl b)
  | int i => exact .base (.int i)
  | str x => exact .base (.str x)
  | lst h _ =>
    rcases h with (h | ⟨o, h⟩) | ⟨o, _, _, e, c, _⟩
    · exact .base (.lst h)
    · exact .base (.frz h)
    · exact .kList e c
  | tup h _ => exact isi_tuple h
def isTup : PyData → Bool
  | .tuple _ => true
  | _ => false
def isIntB : PyData → Bool
  | .int _ => true
  | .bool _ => true
  | _ => false
def isBl : PyData → Bool
  | .bool _ => true
  | _ => false
def isNum : PyData → Bool
  | .int _ => true
  | _ => false
theorem kit_tup {K : PySem.W.Frag} (d : PyData) : PySem.W.kitOne K (.type (tyD d)) (.type "tuple") = some (isTup d) := by
  cases d with
  | none => exact kit_ty (show kitB "NoneType" "tuple" = some false by decide +kernel)
  | bool b => exact kit_ty (show kitB "bool" "tuple" = some false by decide +kernel)
  | int i => exact kit_ty (show kitB "int" "tuple" = some false by decide +kernel)
  | str z => exact kit_ty (show kitB "str" "tuple" = some false by decide +kernel)
  | list l => exact kit_ty (show kitB "list" "tuple" = some false by decide +kernel)
  | tuple l => exact kit_ty (show kitB "tuple" "tuple" = some true by decide +kernel)
  | dict l => exact kit_ty (show kitB "dict" "tuple" = some false by decide +kernel)
theorem kit_int {K : PySem.W.Frag} (d : PyData) : PySem.W.kitOne K (.type (tyD d)) (.type "int") = some (isIntB d) := by
  cases d with
  | none => exact kit_ty (show kitB "NoneType" "int" = some false by decide +kernel)
  | bool b => exact kit_ty (show kitB "bool" "int" = some true by decide +kernel)
  | int i => exact kit_ty (show kitB "int" "int" = some true by decide +kernel)
  | str z => exact kit_ty (show kitB "str" "int" = some false by decide +kernel)
  | list l => exact kit_ty (show kitB "list" "int" = some false by decide +kernel)
  | tuple l => exact kit_ty (show kitB "tuple" "int" = some false by decide +kernel)
  | dict l => exact kit_ty (show kitB "dict" "int" = some false by decide +kernel)
theorem kit_bool {K : PySem.W.Frag} (d : PyData) : PySem.W.kitOne K (.type (tyD d)) (.type "bool") = some (isBl d) := by
  cases d with
  | none => exact kit_ty (show kitB "NoneType" "bool" = some false by decide +kernel)
  | bool b => exact kit_ty (show kitB "bool" "bool" = some true by decide +kernel)
  | int i => exact kit_ty (show kitB "int" "bool" = some false by decide +kernel)
  | str z => exact kit_ty (show kitB "str" "bool" = some false by decide +kernel)
  | list l => exact kit_ty (show kitB "list" "bool" = some false by decide +kernel)
  | tuple l => exact kit_ty (show kitB "tuple" "bool" = some false by decide +kernel)
  | dict l => exact kit_ty (show kitB "dict" "bool" = some false by decide +kernel)
theorem isTup_not {d : PyData} (h : isTup d = false) : ∀ ds, d ≠ .tuple ds := by
  intro ds z
  subst z
  cases h
theorem isTup_is {d : PyData} (h : isTup d = true) : ∃ ds, d = .tuple ds := by
  cases d with
  | tuple ds => exact ⟨ds, rfl⟩
  | _ => cases h
theorem isNum_is {d : PyData} (h : isNum d = true) : ∃ i, d = .int i := by
  cases d with
  | int i => exact ⟨i, rfl⟩
  | _ => cases h
theorem dp_int {K : PySem.W.Frag} {H : Hp} {v : V} {i : Int} (h : Dp K H v (.int i)) : v = .int i := by cases h; rfl
theorem dp_tup {K : PySem.W.Frag} {H : Hp} {v : V} {ds : List PyData} (h : Dp K H v (.tuple ds)) : ∃ a xs, v = .ref a ∧ SqT K H a xs ∧ DpAll K H xs ds := by
  cases h with
  | tup h1 h2 => exact ⟨_, _, rfl, h1, h2⟩
/-! ### numbers, places, lots -/
def numOf : PyData → Int
  | .int i => i
  | _ => 0
def numIn (lo hi : Int) (d : PyData) : Bool := isNum d && (decide (lo ≤ numOf d) && decide (numOf d ≤ hi))
theorem numIn_is {lo hi : Int} {d : PyData} (h : numIn lo hi d = true) : ∃ i, d = .int i ∧ lo ≤ i ∧ i ≤ hi := by
  unfold numIn at h
  simp only [Bool.and_eq_true, decide_eq_true_eq] at h
  obtain ⟨i, rfl⟩ := isNum_is h.1
  exact ⟨i, rfl, h.2.1, h.2.2⟩
theorem numIn_int {lo hi i : Int} : numIn lo hi (.int i) = true ↔ lo ≤ i ∧ i ≤ hi := by
  unfold numIn
  simp only [isNum, numOf, Bool.true_and, Bool.and_eq_true]
  exact ⟨fun h => ⟨of_decide_eq_true h.1, of_decide_eq_true h.2⟩, fun h => ⟨decide_eq_true h.1, decide_eq_true h.2⟩⟩
def nD (n : Nat) : PyData := .int (n : Int)
theorem numIn_nat {lo hi : Int} {n : Nat} : numIn lo hi (nD n) = true ↔ lo ≤ (n : Int) ∧ (n : Int) ≤ hi := numIn_int
theorem dp_nat {K : PySem.W.Frag} {H : Hp} (n : Nat) : Dp K H (vN n) (nD n) := .int _
theorem dp_nats {K : PySem.W.Frag} {H : Hp} : ∀ (ws : List Nat), DpAll K H (ws.map vN) (ws.map nD)
  | [] => .nil
  | _ :: ws => .cons (dp_nat _) (dp_nats ws)
theorem nats_dp {K : PySem.W.Frag} {H : Hp} : ∀ {ws : List Nat} {xs : List V}, DpAll K H xs (ws.map nD) → xs = ws.map vN
  | [], _, h => by cases h; rfl
  | w :: ws, _, h => by
    cases h with
    | cons h1 h2 =>
      have := nats_dp (ws := ws) h2
      subst this
      cases h1
      rfl
def lotD (ws : List Nat) : PyData := .tuple (ws.map nD)
theorem dp_lot {K : PySem.W.Frag} {H : Hp} {a : Addr} {ws : List Nat} (h : SqT K H a (ws.map vN)) : Dp K H (.ref a) (lotD ws) := .tup h (dp_nats ws)
theorem lot_dp {K : PySem.W.Frag} {H : Hp} {v : V} {ws : List Nat} (h : Dp K H v (lotD ws)) : ∃ a, v = .ref a ∧ SqT K H a (ws.map vN) := by
  obtain ⟨a, xs, rfl, h1, h2⟩ := dp_tup h
  rw [nats_dp h2] at h1
  exact ⟨a, rfl, h1⟩
/-- the first that is no place or not above the one before it -/
def badPlace (n : Nat) : Int → Nat → List PyData → Option Nat
  | _, _, [] => none
  | b, i, d :: ds => if numIn (b + 1) ((n : Int) - 1) d = true then badPlace n (numOf d) (i + 1) ds else some i
theorem badPlace_ok {n : Nat} : ∀ {ws : List Nat} {b : Int} {i : Nat}, ws.Pairwise (· < ·) → (∀ x ∈ ws, x < n) → (∀ x ∈ ws, b < (x : Int)) → badPlace n b i (ws.map nD) = none
  | [], _, _, _, _, _ => rfl
  | w :: ws, b, i, up, lt, ab => by
    have h1 := lt w List.mem_cons_self
    have h2 := ab w List.mem_cons_self
    show (if numIn (b + 1) ((n : Int) - 1) (nD w) = true then badPlace n (numOf (nD w)) (i + 1) (ws.map nD) else some i) = none
    rw [if_pos (numIn_nat.mpr ⟨by omega, by omega⟩)]
    obtain ⟨u1, u2⟩ := List.pairwise_cons.mp up
    exact badPlace_ok u2 (fun x hx => lt x (List.mem_cons_of_mem _ hx)) fun x hx => by
      have := u1 x hx
      show (w : Int) < x
      omega
theorem badPlace_none {n : Nat} : ∀ {ds : List PyData} {b : Int} {i : Nat}, -1 ≤ b → badPlace n b i ds = none → ∃ ws : List Nat, ds = ws.map nD ∧ ws.Pairwise (· < ·) ∧ (∀ x ∈ ws, x < n) ∧ ∀ x ∈ ws, b < (x : Int)
  | [], _, _, _, _ => ⟨[], rfl, List.Pairwise.nil, (fun _ h => nomatch h), (fun _ h => nomatch h)⟩
  | d :: ds, b, i, hb, h => by
    unfold badPlace at h
    by_cases c : numIn (b + 1) ((n : Int) - 1) d = true
    · rw [if_pos c] at h
      obtain ⟨x, rfl, l1, l2⟩ := numIn_is c
      obtain ⟨ws, rfl, up, lt, ab⟩ := badPlace_none (b := x) (by omega) h
      refine ⟨x.toNat :: ws, ?_, List.pairwise_cons.mpr ⟨fun y hy => ?_, up⟩, fun y hy => ?_, fun y hy => ?_⟩
      · have : (x.toNat : Int) = x := by omega
        simp only [List.map_cons, nD]
        rw [this]
      · have := ab y hy
        omega
      · rcases List.mem_cons.mp hy with rfl | hy
        · omega
        · exact lt y hy
      · rcases List.mem_cons.mp hy with rfl | hy
        · omega
        · have := ab y hy
          omega
    · rw [if_neg c] at h
      cases h
def lotOk (n : Nat) : PyData → Bool
  | .tuple ds => (badPlace n (-1) 0 ds).isNone
  | _ => false
theorem lotOk_lot {n : Nat} {ws : List Nat} (up : ws.Pairwise (· < ·)) (lt : ∀ x ∈ ws, x < n) : lotOk n (lotD ws) = true := by
  unfold lotOk lotD
  simp only []
  rw [badPlace_ok up lt (fun x _ => by omega)]
  rfl
theorem lotOk_is {n : Nat} {d : PyData} (h : lotOk n d = true) : ∃ ws, d = lotD ws ∧ ws.Pairwise (· < ·) ∧ ∀ x ∈ ws, x < n := by
  cases d with
  | tuple ds =>
    unfold lotOk at h
    simp only [Option.isNone_iff_eq_none] at h
    obtain ⟨ws, rfl, up, lt, _⟩ := badPlace_none (by omega) h
    exact ⟨ws, rfl, up, lt⟩
  | _ => cases h
def optI : Option Nat → Option Int
  | none => none
  | some i => some (i : Int)
theorem optI_none {o : Option Nat} (h : optI o = none) : o = none := by
  cases o with
  | none => rfl
  | some i => cases h
/-! ### roads -/
def pairD (p : Nat × Nat) : PyData := .tuple [nD p.1, nD p.2]
def pairOf (n : Nat) : PyData → Option (Nat × Nat)
  | .tuple [a, b] => if (numIn 0 ((n : Int) - 1) a && numIn 0 ((n : Int) - 1) b) = true then some ((numOf a).toNat, (numOf b).toNat) else none
  | _ => none
theorem pairOf_pair {n : Nat} {p : Nat × Nat} (h : p.1 < n ∧ p.2 < n) : pairOf n (pairD p) = some p := by
  unfold pairOf pairD
  simp only []
  rw [if_pos]
  · rfl
  · rw [Bool.and_eq_true, numIn_nat, numIn_nat]
    omega
theorem pairOf_is {n : Nat} {d : PyData} {p : Nat × Nat} (h : pairOf n d = some p) : d = pairD p ∧ p.1 < n ∧ p.2 < n := by
  unfold pairOf at h
  split at h
  · rename_i a b
    split at h
    · rename_i c
      rw [Bool.and_eq_true] at c
      obtain ⟨i, rfl, i1, i2⟩ := numIn_is c.1
      obtain ⟨j, rfl, j1, j2⟩ := numIn_is c.2
      cases h
      refine ⟨?_, ?_, ?_⟩
      · unfold pairD nD
        simp only [numOf]
        rw [show ((i.toNat : Nat) : Int) = i by omega, show ((j.toNat : Nat) : Int) = j by omega]
      · simp only [numOf]
        omega
      · simp only [numOf]
        omega
    · cases h
  · cases h
instance (p q : Nat × Nat) : Decidable (ltP p q) := by unfold ltP; exact inferInstance
def above (p : Option (Nat × Nat)) (q : Nat × Nat) : Bool := match p with
  | none => true
  | some p => decide (ltP p q)
def badRoad (n : Nat) : Option (Nat × Nat) → Nat → List PyData → Option Nat
  | _, _, [] => none
  | p, i, d :: ds => match pairOf n d with
    | none => some i
    | some q => if above p q = true then badRoad n (some q) (i + 1) ds else some i
theorem badRoad_ok {n : Nat} : ∀ {ps : List (Nat × Nat)} {p : Option (Nat × Nat)} {i : Nat}, ps.Pairwise ltP → (∀ q ∈ ps, q.1 < n ∧ q.2 < n) → (∀ q ∈ ps, above p q = true) → badRoad n p i (ps.map pairD) = none
  | [], _, _, _, _, _ => rfl
  | q :: ps, p, i, up, lt, ab => by
    obtain ⟨u1, u2⟩ := List.pairwise_cons.mp up
    show (match pairOf n (pairD q) with
      | none => some i
      | some q => if above p q = true then badRoad n (some q) (i + 1) (ps.map pairD) else some i) = none
    rw [pairOf_pair (lt q List.mem_cons_self)]
    simp only []
    rw [if_pos (ab q List.mem_cons_self)]
    exact badRoad_ok u2 (fun x hx => lt x (List.mem_cons_of_mem _ hx)) fun x hx => decide_eq_true (u1 x hx)
theorem ltP_trans {a b c : Nat × Nat} (h1 : ltP a b) (h2 : ltP b c) : ltP a c := by
  unfold ltP at *
  omega
theorem badRoad_none {n : Nat} : ∀ {ds : List PyData} {p : Option (Nat × Nat)} {i : Nat}, badRoad n p i ds = none → ∃ ps : List (Nat × Nat), ds = ps.map pairD ∧ ps.Pairwise ltP ∧ (∀ q ∈ ps, q.1 < n ∧ q.2 < n) ∧ ∀ q ∈ ps, above p q = true
  | [], _, _, _ => ⟨[], rfl, List.Pairwise.nil, (fun _ h => nomatch h), (fun _ h => nomatch h)⟩
  | d :: ds, p, i, h => by
    unfold badRoad at h
    cases e : pairOf n d with
    | none => rw [e] at h; cases h
    | some q =>
      rw [e] at h
      simp only [] at h
      obtain ⟨e1, e2⟩ := pairOf_is e
      subst e1
      by_cases c : above p q = true
      · rw [if_pos c] at h
        obtain ⟨ps, rfl, up, lt, ab⟩ := badRoad_none h
        have ab' : ∀ x ∈ ps, ltP q x := fun x hx => of_decide_eq_true (ab x hx)
        refine ⟨q :: ps, rfl, List.pairwise_cons.mpr ⟨ab', up⟩, fun x hx => ?_, fun x hx => ?_⟩
        · rcases List.mem_cons.mp hx with rfl | hx
          · exact e2
          · exact lt x hx
        · rcases List.mem_cons.mp hx with rfl | hx
          · exact c
          · cases p with
            | none => rfl
            | some p => exact decide_eq_true (ltP_trans (of_decide_eq_true c) (ab' x hx))
      · rw [if_neg c] at h
        cases h
def roadsErr (n : Nat) : PyData → Option Int
  | .tuple ds => if ds.length ≤ 240 then optI (badRoad n none 0 ds) else some (-3)
  | _ => some (-3)
/-! ### maps -/
def chartD (C : Chart) : PyData := .tuple [nD C.n, .tuple (C.roads.map pairD), lotD C.wished]
def wishErr (n : Nat) : PyData → Option Int
  | .tuple ds => optI (badPlace n (-1) 0 ds)
  | _ => some (-1)
def mapErr3 (p r w : PyData) : Option (Str × Int) :=
  if numIn 0 60 p = true then
    match roadsErr (numOf p).toNat r with
    | some i => some ("BadMap", i)
    | none => (wishErr (numOf p).toNat w).map fun i => ("BadWish", i)
  else some ("BadMap", -2)
def mapErr : PyData → Option (Str × Int)
  | .tuple [p, r, w] => mapErr3 p r w
  | _ => some ("BadMap", -1)
theorem mapErr_chart {C : Chart} (ok : C.Ok) : mapErr (chartD C) = none := by
  have n60 := ok.n60
  unfold chartD mapErr mapErr3
  simp only []
  rw [if_pos (by rw [numIn_nat]; omega)]
  have e : (numOf (nD C.n)).toNat = C.n := by simp [nD, numOf]
  rw [e]
  have e1 : roadsErr C.n (.tuple (C.roads.map pairD)) = none := by
    unfold roadsErr
    simp only []
    rw [if_pos (by rw [List.length_map]; exact ok.many), badRoad_ok ok.upR ok.inR (fun _ _ => rfl)]
    rfl
  have e2 : wishErr C.n (lotD C.wished) = none := by
    unfold wishErr lotD
    simp only []
    rw [badPlace_ok ok.upW ok.inW (fun _ _ => by omega)]
    rfl
  rw [e1, e2]
  rfl
theorem mapErr3_none {p r w : PyData} (h : mapErr3 p r w = none) : ∃ C : Chart, C.Ok ∧ p = nD C.n ∧ r = .tuple (C.roads.map pairD) ∧ w = lotD C.wished := by
  unfold mapErr3 at h
  split at h
  · rename_i c
    obtain ⟨i, rfl, i1, i2⟩ := numIn_is c
    have ei : ((numOf (PyData.int i)).toNat : Int) = i := by simp only [numOf]; omega
    cases e : roadsErr (numOf (.int i)).toNat r with
    | some j => rw [e] at h; cases h
    | none =>
      rw [e] at h
      simp only [Option.map_eq_none_iff] at h
      cases r with
      | tuple rs =>
        unfold roadsErr at e
        simp only [] at e
        split at e
        · rename_i l
          have e := optI_none e
          obtain ⟨ps, rfl, up, lt, _⟩ := badRoad_none e
          cases w with
          | tuple ws =>
            unfold wishErr at h
            have h := optI_none h
            obtain ⟨vs, rfl, upv, ltv, _⟩ := badPlace_none (by omega) h
            refine ⟨⟨(numOf (.int i)).toNat, ps, vs⟩, ⟨?_, ?_, lt, up, ltv, upv⟩, ?_, rfl, rfl⟩
            · show (numOf (.int i)).toNat ≤ 60
              omega
            · rw [List.length_map] at l
              exact l
            · show PyData.int i = .int ((numOf (.int i)).toNat : Int)
              rw [ei]
          | _ => cases h
        · cases e
      | _ => cases e
  · cases h
theorem mapErr_none {d : PyData} (h : mapErr d = none) : ∃ C : Chart, C.Ok ∧ d = chartD C := by
  unfold mapErr at h
  split at h
  · obtain ⟨C, ok, rfl, rfl, rfl⟩ := mapErr3_none h
    exact ⟨C, ok, rfl⟩
  · cases h
theorem dp_pairs {K : PySem.W.Frag} {H : Hp} : ∀ {ts : List Addr} {ps : List (Nat × Nat)}, PairsAt K H ts ps → DpAll K H (ts.map V.ref) (ps.map pairD)
  | _, _, .nil => .nil
  | _, _, .cons r t => .cons (.tup r (.cons (dp_nat _) (.cons (dp_nat _) .nil))) (dp_pairs t)
theorem pairs_dp {K : PySem.W.Frag} {H : Hp} : ∀ {ps : List (Nat × Nat)} {xs : List V}, DpAll K H xs (ps.map pairD) → ∃ ts, xs = ts.map V.ref ∧ PairsAt K H ts ps
  | [], _, h => by cases h; exact ⟨[], rfl, .nil⟩
  | p :: ps, _, h => by
    cases h with
    | cons h1 h2 =>
      obtain ⟨ts, rfl, q⟩ := pairs_dp (ps := ps) h2
      obtain ⟨a, xs, rfl, hs, ha⟩ := dp_tup h1
      have e : xs = [p.1, p.2].map vN := nats_dp (ws := [p.1, p.2]) ha
      subst e
      exact ⟨a :: ts, rfl, .cons hs q⟩
theorem dp_chart {K : PySem.W.Frag} {H : Hp} {c : Addr} {C : Chart} (h : IsChart K H c C) : Dp K H (.ref c) (chartD C) := by
  obtain ⟨r, w, ts, q⟩ := h
  exact .tup q.top (.cons (dp_nat _) (.cons (.tup q.row (dp_pairs q.prs)) (.cons (dp_lot q.wis) .nil)))
theorem chart_dp {K : PySem.W.Frag} {H : Hp} {v : V} {C : Chart} (h : Dp K H v (chartD C)) : ∃ c, v = .ref c ∧ IsChart K H c C := by
  obtain ⟨c, xs, rfl, hs, ha⟩ := dp_tup h
  cases ha with
  | cons h1 ha =>
    cases ha with
    | cons h2 ha =>
      cases ha with
      | cons h3 ha =>
        cases ha
        cases h1
        obtain ⟨r, ys, rfl, hr, har⟩ := dp_tup h2
        obtain ⟨w, rfl, hw⟩ := lot_dp h3
        obtain ⟨ts, rfl, pr⟩ := pairs_dp har
        exact ⟨c, rfl, r, w, ts, hs, hr, pr, hw⟩
/-! ### standings -/
/-- the first that is no place -/
def noPlace (n : Nat) : Nat → List PyData → Option Nat
  | _, [] => none
  | i, d :: ds => if numIn 0 ((n : Int) - 1) d = true then noPlace n (i + 1) ds else some i
def standErr (n : Nat) : PyData → Option Int
  | .tuple ds => if 1 ≤ ds.length ∧ ds.length ≤ 3 then optI (noPlace n 0 ds) else some (-1)
  | _ => some (-1)
theorem noPlace_ok {n : Nat} : ∀ {ws : List Nat} {i : Nat}, (∀ x ∈ ws, x < n) → noPlace n i (ws.map nD) = none
  | [], _, _ => rfl
  | w :: ws, i, lt => by
    have h1 := lt w List.mem_cons_self
    show (if numIn 0 ((n : Int) - 1) (nD w) = true then noPlace n (i + 1) (ws.map nD) else some i) = none
    rw [if_pos (numIn_nat.mpr ⟨by omega, by omega⟩)]
    exact noPlace_ok fun x hx => lt x (List.mem_cons_of_mem _ hx)
theorem noPlace_none {n : Nat} : ∀ {ds : List PyData} {i : Nat}, noPlace n i ds = none → ∃ ws : List Nat, ds = ws.map nD ∧ ∀ x ∈ ws, x < n
  | [], _, _ => ⟨[], rfl, (fun _ h => nomatch h)⟩
  | d :: ds, i, h => by
    unfold noPlace at h
    by_cases c : numIn 0 ((n : Int) - 1) d = true
    · rw [if_pos c] at h
      obtain ⟨x, rfl, l1, l2⟩ := numIn_is c
      obtain ⟨ws, rfl, lt⟩ := noPlace_none h
      refine ⟨x.toNat :: ws, ?_, fun y hy => ?_⟩
      · have : (x.toNat : Int) = x := by omega
        simp only [List.map_cons, nD]
        rw [this]
      · rcases List.mem_cons.mp hy with rfl | hy
        · omega
        · exact lt y hy
    · rw [if_neg c] at h
      cases h
theorem standErr_ok {n : Nat} {S : List Nat} (lt : ∀ x ∈ S, x < n) (l1 : 1 ≤ S.length) (l3 : S.length ≤ 3) : standErr n (lotD S) = none := by
  unfold standErr lotD
  simp only []
  rw [if_pos (by rw [List.length_map]; exact ⟨l1, l3⟩), noPlace_ok lt]
  rfl
theorem standErr_none {n : Nat} {d : PyData} (h : standErr n d = none) : ∃ S : List Nat, d = lotD S ∧ (∀ x ∈ S, x < n) ∧ 1 ≤ S.length ∧ S.length ≤ 3 := by
  cases d with
  | tuple ds =>
    unfold standErr at h
    simp only [] at h
    split at h
    · rename_i c
      have h := optI_none h
      obtain ⟨ws, rfl, lt⟩ := noPlace_none h
      rw [List.length_map] at c
      exact ⟨ws, rfl, lt, c.1, c.2⟩
    · cases h
  | _ => cases h
end Ft

set_option Elab.async false
set_option linter.all false
set_option maxRecDepth 100000
set_option maxHeartbeats 4000000
namespace Ft
open PySem PySem.Spec PyProof.Rows L2
theorem Er.g {P : Program} {w : World} {K : PySem.W.Frag} {mg : Str → Option Value} {base : Heap} {ca : Str → Addr} {x : Str} (e : Er P w K mg base ca x) : mg x = some (.ref (ca x)) := let ⟨_, _, h, _⟩ := e.ex; h.g
/-- the errors of a class keep what they were made with -/
structure WhatC (K : PySem.W.Frag) (C : Addr) : Prop where
  xf : XfC K C
  no : PySem.W.findIn K (.ref C) "what" = some none
theorem Er.w {P : Program} {w : World} {K : PySem.W.Frag} {mg : Str → Option Value} {base : Heap} {ca : Str → Addr} {x : Str} (e : Er P w K mg base ca x) : WhatC K (ca x) := let ⟨_, _, h, _⟩ := e.ex; ⟨h.xf, h.noW⟩
/-- error.what, in the suite of a clause -/
def tWhat (K : PySem.W.Frag) (a : Addr) (cls : Value) (d : Option Addr) (te : TE) : TE := fun σ H Q => te σ H fun x H1 => x = .ref a ∧ ∃ (C dd : Addr) (v : V), cls = .ref C ∧ WhatC K C ∧ d = some dd ∧ H1 dd = some (.xd [("what", v)]) ∧ Q v H1
theorem pe_what {X : Cx} {a : Addr} {oe : Obj} {cls : Value} {d : Option Addr} {pn : List (Addr × Obj)} {e : Expr} {te : TE} {pos : Pos}
    (hz : L2N.Zn cls d oe) (hf : ∃ vs, oe.data = .fields vs) (he : PE (X.suite a ((a, oe) :: pn)) e te) (hb : attributeBase e "what" X.env (eval e X.env) = eval e X.env := by rfl) :
    PE (X.suite a ((a, oe) :: pn)) (.Attribute e "what" pos) (tWhat X.K a cls d te) := by
  refine ⟨fun pins s σ H Q I h => ?_⟩
  have he2 : PE (X.suite a ((a, oe) :: pn)) e (fun σ H Q => ∃ M : V → Hp → Prop, te σ H M ∧ ∀ v H', M v H' → Q v H') := ⟨fun pins s σ H Q I ⟨M, hm, hu⟩ => thn (he.run pins s σ H M I hm) fun u s1 ⟨v, H1, I1, r, m⟩ => ⟨v, H1, I1, r, hu v H1 m⟩⟩
  refine attr_of hb (thn (he2.run pins s σ H (fun x H1 => x = .ref a ∧ ∃ (C dd : Addr) (v : V), cls = .ref C ∧ WhatC X.K C ∧ d = some dd ∧ H1 dd = some (.xd [("what", v)]) ∧ Q v H1) I ⟨_, h, fun _ _ z => z⟩) fun u s1 hh => ?_)
  obtain ⟨x, H1, I1, rx, ex, C, dd, v, ec, T, ed, ea, q⟩ := hh
  subst ex
  obtain rfl : u = Value.ref a := rx
  subst ec
  subst ed
  obtain ⟨ha, _⟩ := I1.pin (a, oe) (List.mem_append_left _ List.mem_cons_self)
  obtain ⟨vs, hd⟩ := hf
  have hx : ObjOk X.prog X.w H1 s1.heap dd (.xd [("what", v)]) := I1.hok dd _ ea
  obtain ⟨mA, hns, hr⟩ := hx
  obtain ⟨od, ho, hl⟩ := lookIn_ns hns
  have l : List.lookup ("what" : Str) [(("what" : Str), v)] = some v := by simp [List.lookup]
  obtain ⟨u, hu, ru⟩ := RelO.some_of (v := v) (o := mA "what") (by rw [← l]; exact hr "what")
  have J : PySem.W.InstAt s1.heap a oe C (some od) := ⟨ha, hz.1, by unfold PySem.W.notCls; rw [hd] <;> rfl, by rw [hz.2.1]; exact ho⟩
  exact HandSPX.exc_get I1.kIn J T.xf.ga T.xf.gg T.xf.exC (PySem.W.findObj_own T.xf.hdC T.no rfl (by rw [hl, hu])) (handed_of ru) ⟨v, H1, I1.tok _, ru, q⟩
/-- an error of the class c is one that «except d» names, or is not -/
def Exm (K : PySem.W.Frag) (ca : Str → Addr) (c d : Str) (b : Bool) : Prop := PySem.W.exmOne K (.ref (ca c)) (.ref (ca d)) = some b
/-- a module's number -/
def MgI (mg : Str → Option Value) (x : Str) (n : Int) : Prop := ∃ t, mg x = some (.int n t)
theorem pe_globI {X : Cx} {x : Str} {n : Int} {pos : Pos} (hg : Gl X x) (h : MgI X.mg x n) (hd : (x == ("__debug__" : Str)) = false := by decide) : PE X (.Name x pos) (tC (.int n)) := by
  obtain ⟨t, h⟩ := h
  exact pe_glob (v := .int n) hg h ⟨_, rfl⟩ hd
end Ft

set_option Elab.async false
set_option linter.all false
set_option maxRecDepth 100000
set_option maxHeartbeats 4000000
namespace Ft
open PySem PySem.Spec PyProof.Rows L2
def top (i : Nat) : Stmt := PySem.Challenge.pw_fewtraps_k05_cuts_and_missed_walks.main.body.getD i (.Pass ⟨0, 0, 0, 0⟩)
abbrev s_made_map : Stmt := top 10
theorem sc_made_map : FnScope ["thing", "places", "roads", "wished", "index"] ["thing"] (L2.defScope s_made_map) := ⟨rfl, rfl, rfl, by decide +kernel, rfl, by decide +kernel, by decide +kernel⟩
abbrev s_is_number : Stmt := top 11
theorem sc_is_number : FnScope ["thing"] ["thing"] (L2.defScope s_is_number) := ⟨rfl, rfl, rfl, by decide +kernel, rfl, by decide +kernel, by decide +kernel⟩
abbrev s_number_within : Stmt := top 12
theorem sc_number_within : FnScope ["thing", "low", "high"] ["thing", "low", "high"] (L2.defScope s_number_within) := ⟨rfl, rfl, rfl, by decide +kernel, rfl, by decide +kernel, by decide +kernel⟩
abbrev s_first_bad_place : Stmt := top 13
theorem sc_first_bad_place : FnScope ["places", "items", "before", "index", "item"] ["places", "items"] (L2.defScope s_first_bad_place) := ⟨rfl, rfl, rfl, by decide +kernel, rfl, by decide +kernel, by decide +kernel⟩
abbrev s_check_roads : Stmt := top 14
theorem sc_check_roads : FnScope ["places", "roads", "index", "road"] ["places", "roads"] (L2.defScope s_check_roads) := ⟨rfl, rfl, rfl, by decide +kernel, rfl, by decide +kernel, by decide +kernel⟩
abbrev s_road_fits : Stmt := top 15
theorem sc_road_fits : FnScope ["places", "thing"] ["places", "thing"] (L2.defScope s_road_fits) := ⟨rfl, rfl, rfl, by decide +kernel, rfl, by decide +kernel, by decide +kernel⟩
abbrev s_lot_fits : Stmt := top 16
theorem sc_lot_fits : FnScope ["chart", "thing"] ["chart", "thing"] (L2.defScope s_lot_fits) := ⟨rfl, rfl, rfl, by decide +kernel, rfl, by decide +kernel, by decide +kernel⟩
abbrev s_check_lot : Stmt := top 17
theorem sc_check_lot : FnScope ["chart", "thing"] ["chart", "thing"] (L2.defScope s_check_lot) := ⟨rfl, rfl, rfl, by decide +kernel, rfl, by decide +kernel, by decide +kernel⟩
abbrev s_roads_from : Stmt := top 18
theorem sc_roads_from : FnScope ["chart", "targets", "a", "b", "_"] ["chart"] (L2.defScope s_roads_from) := ⟨rfl, rfl, rfl, by decide +kernel, rfl, by decide +kernel, by decide +kernel⟩
abbrev s_unwished_of : Stmt := top 19
theorem sc_unwished_of : FnScope ["chart", "wished", "place"] ["chart"] (L2.defScope s_unwished_of) := ⟨rfl, rfl, rfl, by decide +kernel, rfl, by decide +kernel, by decide +kernel⟩
abbrev s_cuts : Stmt := top 21
theorem sc_cuts : FnScope ["chart", "traps", "lot"] ["chart", "traps", "lot"] (L2.defScope s_cuts) := ⟨rfl, rfl, rfl, by decide +kernel, rfl, by decide +kernel, by decide +kernel⟩
abbrev s_missed : Stmt := top 22
theorem sc_missed : FnScope ["chart", "traps", "lot", "left", "targets", "starts", "many", "place", "walk", "a", "b"] ["chart", "traps", "lot"] (L2.defScope s_missed) := ⟨rfl, rfl, rfl, by decide +kernel, rfl, by decide +kernel, by decide +kernel⟩
abbrev s_roads_left : Stmt := top 23
theorem sc_roads_left : FnScope ["chart", "traps", "stopped", "left", "passed", "latest", "many", "place", "a", "b"] ["chart", "traps"] (L2.defScope s_roads_left) := ⟨rfl, rfl, rfl, by decide +kernel, rfl, by decide +kernel, by decide +kernel⟩
abbrev s_law_pool : Stmt := top 25
theorem sc_law_pool : FnScope ["script", "first", "size"] ["script"] (L2.defScope s_law_pool) := ⟨rfl, rfl, rfl, by decide +kernel, rfl, by decide +kernel, by decide +kernel⟩
abbrev s_law_draw : Stmt := top 26
theorem sc_law_draw : FnScope ["pool", "many", "cell", "size", "found"] ["pool", "many"] (L2.defScope s_law_draw) := ⟨rfl, rfl, rfl, by decide +kernel, rfl, by decide +kernel, by decide +kernel⟩
abbrev s_law_turned : Stmt := top 27
theorem sc_law_turned : FnScope ["pool", "many", "left", "found", "turn"] ["pool", "many"] (L2.defScope s_law_turned) := ⟨rfl, rfl, rfl, by decide +kernel, rfl, by decide +kernel, by decide +kernel⟩
abbrev s_law_map_named : Stmt := top 28
theorem sc_law_map_named : FnScope ["pool", "places", "roads", "wished", "names", "told", "a", "b"] ["pool", "places", "roads", "wished"] (L2.defScope s_law_map_named) := ⟨rfl, rfl, rfl, by decide +kernel, rfl, by decide +kernel, by decide +kernel⟩
abbrev s_law_map_some_wished : Stmt := top 29
theorem sc_law_map_some_wished : FnScope ["pool", "places", "roads", "way", "last", "a", "road"] ["pool", "places", "roads"] (L2.defScope s_law_map_some_wished) := ⟨rfl, rfl, rfl, by decide +kernel, rfl, by decide +kernel, by decide +kernel⟩
abbrev s_law_map_drawn : Stmt := top 30
theorem sc_law_map_drawn : FnScope ["pool", "most", "places", "way", "roads", "turn", "a", "b", "ahead", "size"] ["pool", "most"] (L2.defScope s_law_map_drawn) := ⟨rfl, rfl, rfl, by decide +kernel, rfl, by decide +kernel, by decide +kernel⟩
abbrev s_law_map_lot : Stmt := top 31
theorem sc_law_map_lot : FnScope ["pool", "chart", "way", "a"] ["pool", "chart"] (L2.defScope s_law_map_lot) := ⟨rfl, rfl, rfl, by decide +kernel, rfl, by decide +kernel, by decide +kernel⟩
abbrev s_law_way_no_charts : Stmt := top 32
theorem sc_law_way_no_charts : FnScope ["chart", "places", "roads", "wished", "beyond", "found"] ["chart"] (L2.defScope s_law_way_no_charts) := ⟨rfl, rfl, rfl, by decide +kernel, rfl, by decide +kernel, by decide +kernel⟩
abbrev s_law_way_no_lots : Stmt := top 33
theorem sc_law_way_no_lots : FnScope ["chart"] ["chart"] (L2.defScope s_law_way_no_lots) := ⟨rfl, rfl, rfl, by decide +kernel, rfl, by decide +kernel, by decide +kernel⟩
abbrev s_law_way_raised : Stmt := top 34
theorem sc_law_way_raised : FnScope ["call", "error", "under", "names", "at", "name"] ["call"] (L2.defScope s_law_way_raised) := ⟨rfl, rfl, rfl, by decide +kernel, rfl, by decide +kernel, by decide +kernel⟩
abbrev s_law_listed : Stmt := top 35
theorem sc_law_listed : FnScope ["chart", "traps", "lot", "walks", "turn", "longer", "walk", "a", "b", "ended", "p"] ["chart", "traps", "lot"] (L2.defScope s_law_listed) := ⟨rfl, rfl, rfl, by decide +kernel, rfl, by decide +kernel, by decide +kernel⟩
abbrev s_law_told : Stmt := top 36
theorem sc_law_told : FnScope ["chart", "traps", "lot", "due"] ["chart", "traps", "lot", "due"] (L2.defScope s_law_told) := ⟨rfl, rfl, rfl, by decide +kernel, rfl, by decide +kernel, by decide +kernel⟩
abbrev s_law_chain : Stmt := top 37
theorem sc_law_chain : FnScope ["pool", "many", "names", "roads", "one", "two", "trap", "lot", "begun", "due", "at"] ["pool"] (L2.defScope s_law_chain) := ⟨rfl, rfl, rfl, by decide +kernel, rfl, by decide +kernel, by decide +kernel⟩
abbrev s_law_refused : Stmt := top 38
theorem sc_law_refused : FnScope ["chart", "lot", "thing", "name", "what", "found"] ["chart", "lot"] (L2.defScope s_law_refused) := ⟨rfl, rfl, rfl, by decide +kernel, rfl, by decide +kernel, by decide +kernel⟩
abbrev s_law : Stmt := top 39
theorem sc_law : FnScope ["script", "pool", "chart", "lot", "some", "inner", "traps", "p"] ["script"] (L2.defScope s_law) := ⟨rfl, rfl, rfl, by decide +kernel, rfl, by decide +kernel, by decide +kernel⟩
abbrev s_init : Stmt := L2.inClass (top 1) 0
theorem sc_init : FnScope ["self", "what"] ["self", "what"] (L2.defScope s_init) := ⟨rfl, rfl, rfl, by decide +kernel, rfl, by decide +kernel, by decide +kernel⟩
end Ft

set_option Elab.async false
set_option linter.all false
set_option maxRecDepth 100000
set_option maxHeartbeats 4000000
namespace Ft
open PySem PySem.Spec PyProof.Rows L2
section
variable {P : Program} {w : World} {K : PySem.W.Frag} {mg : Str → Option Value} {base : Heap} {ca : Str → Addr}
/-! ### is_number, number_within, of data -/
def sp_is_number (K : PySem.W.Frag) : Sp := fun vs H Q _ => ∃ (v : V) (d : PyData), vs = [v] ∧ Dp K H v d ∧ Q (.bl (isNum d)) H
theorem cal_is_number (T : Txt mg) (D : Def K mg "is_number" s_is_number) : Cal P w K mg base 1 "is_number" (sp_is_number K) := by
  refine cal_of D sc_is_number (fun _ _ _ _ _ _ us hl => match us, hl with | [_], _ => rfl) (fun vs H Q E h => ?_) (fun f cdv A outer s H vs Q E hr h => ?_)
  · obtain ⟨v, d, rfl, _⟩ := h
    rfl
  · obtain ⟨v, d, rfl, hd, q⟩ := h
    refine ⟨_, (pss_one (ps_ret (pe_and (pe_callB (show CallR _ _ (rIsi K) from call_isi) (by rfl) T.isinstance (by decide +kernel) (pa_cons (pv 0) (pa_cons (pe_bltn (v := .ty "int") (u := .type "int") (by rfl) T.int (by decide +kernel) rfl) pa_nil))) (pe_one (pe_not (pe_callB (show CallR _ _ (rIsi K) from call_isi) (by rfl) T.isinstance (by decide +kernel) (pa_cons (pv 0) (pa_cons (pe_bltn (v := .ty "bool") (u := .type "bool") (by rfl) T.bool (by decide +kernel) rfl) pa_nil)))))))), ?_⟩
    refine ⟨_, rfl, _, _, _, _, isIntB d, rfl, .ty "int", isi_dp hd, kit_int d, isIntB d, rfl, ?_⟩
    cases e : isIntB d with
    | false =>
      have : isNum d = false := by cases d <;> first | rfl | cases e
      rw [this] at q
      exact iteF q
    | true =>
      refine iteT ?_
      refine ⟨_, rfl, _, _, _, _, isBl d, rfl, .ty "bool", isi_dp hd, kit_bool d, isBl d, rfl, ?_⟩
      have : isNum d = !isBl d := by cases d <;> first | rfl | cases e
      rw [this] at q
      exact q
def sp_number_within (K : PySem.W.Frag) : Sp := fun vs H Q _ => ∃ (v : V) (d : PyData) (lo hi : Int), vs = [v, .int lo, .int hi] ∧ Dp K H v d ∧ Q (.bl (numIn lo hi d)) H
theorem cal_number_within (T : Txt mg) (D : Def K mg "number_within" s_number_within) (c_is_number : Cal P w K mg base 1 "is_number" (sp_is_number K)) : Cal P w K mg base 2 "number_within" (sp_number_within K) := by
  refine cal_of D sc_number_within (fun _ _ _ _ _ _ us hl => match us, hl with | [_, _, _], _ => rfl) (fun vs H Q E h => ?_) (fun f cdv A outer s H vs Q E hr h => ?_)
  · obtain ⟨v, d, lo, hi, rfl, _⟩ := h
    rfl
  · obtain ⟨v, d, lo, hi, rfl, hd, q⟩ := h
    refine ⟨_, (pss_one (ps_ret (pe_and (pe_c c_is_number hr (by decide) (by rfl) (pa_cons (pv 0) pa_nil)) (pe_one (pe_chain op_le op_le (pv 1) (pv 0) (pv 2)))))), ?_⟩
    refine ⟨_, rfl, v, d, rfl, hd, isNum d, rfl, ?_⟩
    cases e : isNum d with
    | false =>
      have : numIn lo hi d = false := by unfold numIn; rw [e]; rfl
      rw [this] at q
      exact iteF q
    | true =>
      refine iteT ?_
      obtain ⟨i, rfl⟩ := isNum_is e
      cases dp_int hd
      have e2 : numIn lo hi (.int i) = (decide (lo ≤ i) && decide (i ≤ hi)) := by unfold numIn; rw [e]; rfl
      rw [e2] at q
      refine ⟨_, rfl, _, rfl, _, _, rfl, rfl, _, rfl, ?_⟩
      by_cases h1 : lo ≤ i
      · rw [decide_eq_true h1] at q ⊢
        exact iteT ⟨_, rfl, _, _, rfl, rfl, q⟩
      · rw [decide_eq_false h1] at q ⊢
        exact iteF q
end
end Ft

set_option Elab.async false
set_option linter.all false
set_option maxRecDepth 100000
set_option maxHeartbeats 4000000
namespace Ft
open PySem PySem.Spec PyProof.Rows L2
section
variable {P : Program} {w : World} {K : PySem.W.Frag} {mg : Str → Option Value} {base : Heap} {ca : Str → Addr}
theorem get_map {α β : Type} {f : α → β} {l : List α} {i : Nat} {y : β} (h : (l.map f)[i]? = some y) : ∃ x, l[i]? = some x ∧ y = f x := by
  rw [List.getElem?_map] at h
  cases e : l[i]? with
  | none => rw [e] at h; cases h
  | some x => rw [e] at h; exact ⟨x, rfl, (Option.some.inj h).symm⟩
theorem up_get {ws : List Nat} (up : ws.Pairwise (· < ·)) {i j a b : Nat} (hi : ws[i]? = some a) (hj : ws[j]? = some b) (h : i < j) : a < b := by
  obtain ⟨h1, e1⟩ := List.getElem?_eq_some_iff.mp hi
  obtain ⟨h2, e2⟩ := List.getElem?_eq_some_iff.mp hj
  rw [← e1, ← e2]
  exact List.pairwise_iff_getElem.mp up i j h1 h2 h
/-! ### first_bad_place, of data -/
def optV : Option Nat → V
  | none => .non
  | some i => .int (i : Int)
theorem drop_get {α : Type} {l : List α} {i : Nat} {x : α} (h : l[i]? = some x) : l.drop i = x :: l.drop (i + 1) := by
  obtain ⟨hi, e⟩ := List.getElem?_eq_some_iff.mp h
  rw [← e]
  exact List.drop_eq_getElem_cons hi
theorem badPlace_cons {n : Nat} {b : Int} {i : Nat} {d : PyData} {ds : List PyData} : badPlace n b i (d :: ds) = if numIn (b + 1) ((n : Int) - 1) d = true then badPlace n (numOf d) (i + 1) ds else some i := rfl
def sp_first_bad_place (K : PySem.W.Frag) : Sp := fun vs H Q _ => ∃ (n : Nat) (a : Addr) (xs : List V) (ds : List PyData), vs = [vN n, .ref a] ∧ SqT K H a xs ∧ DpAll K H xs ds ∧ ∀ H', Same H H' → Q (optV (badPlace n (-1) 0 ds)) H'
theorem cal_first_bad_place (T : Txt mg) (D : Def K mg "first_bad_place" s_first_bad_place) (c_number_within : Cal P w K mg base 2 "number_within" (sp_number_within K)) : Cal P w K mg base 3 "first_bad_place" (sp_first_bad_place K) := by
  refine cal_of D sc_first_bad_place (fun _ _ _ _ _ _ us hl => match us, hl with | [_, _], _ => rfl) (fun vs H Q E h => ?_) (fun f cdv A outer s H vs Q E hr h => ?_)
  · obtain ⟨n, a, xs, ds, rfl, _⟩ := h
    rfl
  · obtain ⟨n, a, xs, ds, rfl, hW, hD, q⟩ := h
    refine ⟨_, (pss_cons (ps_set (i := 2) sc_first_bad_place.nd rfl (Or.inl rfl) (pe_un un_neg pe_int))
      (pss_cons (ps_for PassesOwn.never rfl (show PI _ _ _ (iEnumT K _) from pi_enumT (by rfl) T.enumerate (pa_cons (pv 1) pa_nil)) (show PG _ _ (gTup K 2 _) from pg_tup (by rfl) (pgs_cons (pg_name (i := 3) sc_first_bad_place.nd rfl (Or.inl rfl)) (pgs_cons (pg_name (i := 4) sc_first_bad_place.nd rfl (Or.inl rfl)) pgs_nil))) (pss_cons (ps_if (pt_not (pt_val (pe_c c_number_within hr (by decide) (by rfl) (pa_cons (pv 4) (pa_cons (pe_op op_add (pv 2) pe_int) (pa_cons (pe_op op_sub (pv 0) pe_int) pa_nil)))))) (pss_one (ps_ret (pv 3))) pss_nil)
        (pss_one (ps_set (i := 2) sc_first_bad_place.nd rfl (Or.inl rfl) (pv 4)))))
      (pss_one (ps_ret pe_non)))), ?_⟩
    refine ⟨_, rfl, _, rfl, a, _, rfl, hW, for_it walk_enumT (fun i σ H' => ∃ (b : Int) (v3 v4 : Option V), σ = [some (vN n), some (.ref a), some (.int b), v3, v4] ∧ Same H H' ∧ badPlace n (-1) 0 ds = badPlace n b i (ds.drop i)) ⟨-1, _, _, rfl, fun _ _ h => h, rfl⟩ (fun i σ H' _ ⟨_, _, _, _, s1, _⟩ => Same.sqT s1 hW) ?_ ?_⟩
    · rintro i x σ H1 H2 hi ⟨b, v3, v4, rfl, s1, eb⟩ ⟨t, x0, y, rfl, nt, rfl, e1, e2⟩
      obtain ⟨d, hd, dd⟩ := dpAll_get hD e2
      have s2 := s1.trans (same_upd (o := .tup [.int (i : Nat), y]) nt)
      rw [drop_get hd, badPlace_cons] at eb
      cases e1
      refine ⟨t, _, rfl, .inl (.inl upd_same), rfl, _, _, rfl, _, _, rfl, rfl, ?_⟩
      refine ⟨_, rfl, _, rfl, _, _, rfl, rfl, _, rfl, _, _, rfl, rfl, _, d, _, _, rfl, Dp.same s2 dd, numIn (b + 1) ((n : Int) - 1) d, rfl, ?_⟩
      cases c : numIn (b + 1) ((n : Int) - 1) d with
      | false =>
        rw [c, if_neg Bool.false_ne_true] at eb
        refine iteT ?_
        have := q _ s2
        rw [eb] at this
        exact ⟨_, rfl, this⟩
      | true =>
        rw [c, if_pos rfl] at eb
        obtain ⟨z, rfl, _, _⟩ := numIn_is c
        cases dp_int dd
        refine iteF ?_
        exact ⟨_, rfl, z, _, _, rfl, s2, eb⟩
    · rintro σ H1 ⟨b, v3, v4, rfl, s1, eb⟩
      rw [dpAll_length hD, List.drop_length] at eb
      have := q H1 s1
      rw [eb] at this
      exact this
/-! ### road_fits, of data -/
def sp_road_fits (K : PySem.W.Frag) : Sp := fun vs H Q _ => ∃ (n : Nat) (v : V) (d : PyData), vs = [vN n, v] ∧ Dp K H v d ∧ Q (.bl (pairOf n d).isSome) H
theorem pairOf_two {n : Nat} {a b : PyData} : (pairOf n (.tuple [a, b])).isSome = (numIn 0 ((n : Int) - 1) a && numIn 0 ((n : Int) - 1) b) := by
  unfold pairOf
  simp only []
  split
  · rename_i h
    rw [h]
    rfl
  · rename_i h
    rw [Bool.not_eq_true] at h
    rw [h]
    rfl
theorem pairOf_len {n : Nat} {ds : List PyData} (h : ds.length ≠ 2) : pairOf n (.tuple ds) = none := by
  unfold pairOf
  split
  · rename_i a b e
    cases e
    exact absurd rfl h
  · rfl
theorem pairOf_not {n : Nat} {d : PyData} (h : isTup d = false) : pairOf n d = none := by
  cases d <;> first | rfl | cases h
theorem cal_road_fits (T : Txt mg) (D : Def K mg "road_fits" s_road_fits) (c_number_within : Cal P w K mg base 2 "number_within" (sp_number_within K)) : Cal P w K mg base 3 "road_fits" (sp_road_fits K) := by
  refine cal_of D sc_road_fits (fun _ _ _ _ _ _ us hl => match us, hl with | [_, _], _ => rfl) (fun vs H Q E h => ?_) (fun f cdv A outer s H vs Q E hr h => ?_)
  · obtain ⟨n, v, d, rfl, _⟩ := h
    rfl
  · obtain ⟨n, v, d, rfl, hd, q⟩ := h
    refine ⟨_, (pss_cons (ps_if (PW.pt (pw_or (pt_not (pt_val (pe_callB (show CallR _ _ (rIsi K) from call_isi) (by rfl) T.isinstance (by decide +kernel) (pa_cons (pv 1) (pa_cons (pe_bltn (v := .ty "tuple") (u := .type "tuple") (by rfl) T.tuple (by decide +kernel) rfl) pa_nil))))) (pw_or1 (pt_cmpR op_ne (pe_callB (show CallR _ _ (rLenS K) from call_lenS) (by rfl) T.len (by decide +kernel) (pa_cons (pv 1) pa_nil)) pe_int (nomark _))))) (pss_one (ps_ret pe_bl)) pss_nil)
      (pss_one (ps_ret (pe_and (pe_c c_number_within hr (by decide) (by rfl) (pa_cons (pe_ix (show IxR _ (rIxT K) from ix_tup) (pv 1) pe_int (fun _ _ => rfl)) (pa_cons pe_int (pa_cons (pe_op op_sub (pv 0) pe_int) pa_nil)))) (pe_one (pe_c c_number_within hr (by decide) (by rfl) (pa_cons (pe_ix (show IxR _ (rIxT K) from ix_tup) (pv 1) pe_int (fun _ _ => rfl)) (pa_cons pe_int (pa_cons (pe_op op_sub (pv 0) pe_int) pa_nil))))))))), ?_⟩
    refine ⟨_, rfl, _, _, _, _, isTup d, rfl, .ty "tuple", isi_dp hd, kit_tup d, isTup d, rfl, ?_⟩
    cases e : isTup d with
    | false =>
      rw [pairOf_not e] at q
      exact iteT (iteT q)
    | true =>
      obtain ⟨ds, rfl⟩ := isTup_is e
      obtain ⟨t, xs, rfl, ht, ha⟩ := dp_tup hd
      refine iteF ?_
      refine ⟨_, rfl, _, _, rfl, .inr ht, rfl, _, rfl, ?_⟩
      by_cases l : ds.length = 2
      · have e2 : (!decide (V.int ((xs.length : Nat) : Int) = V.int 2)) = false := by
          rw [dpAll_length ha, l]
          rfl
        obtain ⟨a, b, rfl⟩ : ∃ a b, ds = [a, b] := by
          match ds, l with
          | [a, b], _ => exact ⟨a, b, rfl⟩
        cases ha with
        | cons h1 h2 =>
          cases h2 with
          | cons h2 h3 =>
            cases h3
            rename_i x y
            refine iteF ?_
            rw [pairOf_two] at q
            refine ⟨_, rfl, _, _, _, _, rfl, rfl, ht, rfl, _, rfl, _, _, rfl, rfl, x, a, _, _, rfl, h1, numIn 0 ((n : Int) - 1) a, rfl, ?_⟩
            cases c : numIn 0 ((n : Int) - 1) a with
            | false =>
              rw [c] at q
              exact iteF q
            | true =>
              rw [c] at q
              refine iteT ?_
              exact ⟨_, rfl, _, _, _, _, rfl, rfl, ht, rfl, _, rfl, _, _, rfl, rfl, y, b, _, _, rfl, h2, q⟩
      · rw [pairOf_len l] at q
        have e2 : (!decide (V.int ((xs.length : Nat) : Int) = V.int 2)) = true := by
          rw [dpAll_length ha, decide_eq_false]
          · rfl
          · intro z
            have z' := V.int.inj z
            omega
        exact ite_any (fun _ => q) (fun z => absurd (show (!decide (V.int ((xs.length : Nat) : Int) = V.int 2)) = false from z) (by rw [e2]; exact fun h => nomatch h))
end
end Ft

set_option Elab.async false
set_option linter.all false
set_option maxRecDepth 100000
set_option maxHeartbeats 4000000
namespace Ft
open PySem PySem.Spec PyProof.Rows L2
section
variable {P : Program} {w : World} {K : PySem.W.Frag} {mg : Str → Option Value} {base : Heap} {ca : Str → Addr}
/-! ### check_roads, of data -/
theorem upP_get {ps : List (Nat × Nat)} (up : ps.Pairwise ltP) {i j : Nat} {a b : Nat × Nat} (hi : ps[i]? = some a) (hj : ps[j]? = some b) (h : i < j) : ltP a b := by
  obtain ⟨h1, e1⟩ := List.getElem?_eq_some_iff.mp hi
  obtain ⟨h2, e2⟩ := List.getElem?_eq_some_iff.mp hj
  rw [← e1, ← e2]
  exact List.pairwise_iff_getElem.mp up i j h1 h2 h
theorem lex_two {a b c d : Nat} :
    Ob.lexAt (fun j => decide (([(c : Int), (d : Int)] : List Int).getD j 0 = ([(a : Int), (b : Int)] : List Int).getD j 0)) (fun j => decide (([(c : Int), (d : Int)] : List Int).getD j 0 ≤ ([(a : Int), (b : Int)] : List Int).getD j 0)) (decide (([(c : Int), (d : Int)] : List Int).length ≤ ([(a : Int), (b : Int)] : List Int).length)) 0 (min ([(c : Int), (d : Int)] : List Int).length ([(a : Int), (b : Int)] : List Int).length) = !decide (ltP (a, b) (c, d)) := by
  simp only [List.length_cons, List.length_nil, Nat.min_self, Ob.lexAt, List.getD_cons_zero, List.getD_cons_succ]
  have e : decide (ltP (a, b) (c, d)) = decide (a < c ∨ (a = c ∧ b < d)) := by
    by_cases h : ltP (a, b) (c, d)
    · rw [decide_eq_true h]
      exact (decide_eq_true h).symm
    · rw [decide_eq_false h]
      exact (decide_eq_false h).symm
  rw [e]
  rcases Nat.lt_trichotomy a c with h | h | h
  · have n1 : ¬ ((c : Int) = a) := by omega
    have n2 : ¬ ((c : Int) ≤ a) := by omega
    have n3 : a < c ∨ (a = c ∧ b < d) := .inl h
    simp [n1, n2, n3]
  · have n1 : ((c : Int) = a) := by omega
    rcases Nat.lt_trichotomy b d with h2 | h2 | h2
    · have n2 : ¬ ((d : Int) = b) := by omega
      have n3 : ¬ ((d : Int) ≤ b) := by omega
      have n4 : a < c ∨ (a = c ∧ b < d) := .inr ⟨h, h2⟩
      simp [n1, n2, n3, n4]
    · have n2 : ((d : Int) = b) := by omega
      have n4 : ¬ (a < c ∨ (a = c ∧ b < d)) := by omega
      simp [n1, n2, n4]
    · have n2 : ¬ ((d : Int) = b) := by omega
      have n3 : ((d : Int) ≤ b) := by omega
      have n4 : ¬ (a < c ∨ (a = c ∧ b < d)) := by omega
      simp [n1, n2, n3, n4]
  · have n1 : ¬ ((c : Int) = a) := by omega
    have n2 : ((c : Int) ≤ a) := by omega
    have n3 : ¬ (a < c ∨ (a = c ∧ b < d)) := by omega
    simp [n1, n2, n3]
theorem badRoad_cons {n : Nat} {p : Option (Nat × Nat)} {i : Nat} {d : PyData} {ds : List PyData} : badRoad n p i (d :: ds) = match pairOf n d with
    | none => some i
    | some q => if above p q = true then badRoad n (some q) (i + 1) ds else some i := rfl
theorem pair_dp {K : PySem.W.Frag} {H : Hp} {v : V} {p : Nat × Nat} (h : Dp K H v (pairD p)) : ∃ t, v = .ref t ∧ SqT K H t [vN p.1, vN p.2] := by
  obtain ⟨a, xs, rfl, hs, ha⟩ := dp_tup h
  have e : xs = [p.1, p.2].map vN := nats_dp (ws := [p.1, p.2]) ha
  subst e
  exact ⟨a, rfl, hs⟩
def spX_check_roads (K : PySem.W.Frag) (ca : Str → Addr) : Sp := fun vs H Q E => ∃ (n : Nat) (v : V) (d : PyData), vs = [vN n, v] ∧ Dp K H v d ∧ (roadsErr n d = none → ∀ H', Same H H' → Q .non H') ∧ ∀ i, roadsErr n d = some i → Raised K ca H E ("BadMap", .int i)
theorem cal_check_roads (T : Txt mg) (D : Def K mg "check_roads" s_check_roads) (m_MOST_ROADS : MgI mg "MOST_ROADS" 240) (e_BadMap : Er P w K mg base ca "BadMap") (c_road_fits : Cal P w K mg base 3 "road_fits" (sp_road_fits K)) : CalX P w K mg base 4 "check_roads" (spX_check_roads K ca) := by
  refine calx_of D sc_check_roads (fun _ _ _ _ _ _ us hl => match us, hl with | [_, _], _ => rfl) (fun vs H Q E h => ?_) (fun f cdv A outer s H vs Q E hr h => ?_)
  · obtain ⟨n, v, d, rfl, _⟩ := h
    rfl
  · obtain ⟨n, v, d, rfl, hd, q, r⟩ := h
    refine ⟨_, (pss_cons (ps_if (PW.pt (pw_or (pt_not (pt_val (pe_callB (show CallR _ _ (rIsi K) from call_isi) (by rfl) T.isinstance (by decide +kernel) (pa_cons (pv 1) (pa_cons (pe_bltn (v := .ty "tuple") (u := .type "tuple") (by rfl) T.tuple (by decide +kernel) rfl) pa_nil))))) (pw_or1 (pt_cmpR op_gt (pe_callB (show CallR _ _ (rLenS K) from call_lenS) (by rfl) T.len (by decide +kernel) (pa_cons (pv 1) pa_nil)) (pe_globI (n := 240) rfl m_MOST_ROADS) (nomark _))))) (pss_one (ps_raiseE rfl e_BadMap hr (by decide) (L2N.takes_of rfl rfl rfl rfl) (by rfl) (pa_cons (pe_un un_neg pe_int) pa_nil))) pss_nil)
      (pss_one (ps_for (passes_of rfl) rfl (show PI _ _ _ (iEnumT K _) from pi_enumT (by rfl) T.enumerate (pa_cons (pv 1) pa_nil)) (show PG _ _ (gTup K 2 _) from pg_tup (by rfl) (pgs_cons (pg_name (i := 2) sc_check_roads.nd rfl (Or.inl rfl)) (pgs_cons (pg_name (i := 3) sc_check_roads.nd rfl (Or.inl rfl)) pgs_nil))) (pss_cons (ps_if (pt_not (pt_val (pe_c c_road_fits hr (by decide) (by rfl) (pa_cons (pv 0) (pa_cons (pv 3) pa_nil))))) (pss_one (ps_raiseE rfl e_BadMap hr (by decide) (L2N.takes_of rfl rfl rfl rfl) (by rfl) (pa_cons (pv 2) pa_nil))) pss_nil)
        (pss_one (ps_if (PW.pt (pw_and (pt_cmpR op_gt (pv 2) pe_int (nomark _)) (pw_and1 (pt_cmpR (show OpR _ _ (rLeT K) from op_leT hr.units0) (pv 3) (pe_ix (show IxR _ (rIxT K) from ix_tup) (pv 1) (pe_op op_sub (pv 2) pe_int) (fun _ _ => rfl)) (nomark _))))) (pss_one (ps_raiseE rfl e_BadMap hr (by decide) (L2N.takes_of rfl rfl rfl rfl) (by rfl) (pa_cons (pv 2) pa_nil))) pss_nil)))))), ?_⟩
    refine ⟨_, rfl, _, _, _, _, isTup d, rfl, .ty "tuple", isi_dp hd, kit_tup d, isTup d, rfl, ?_⟩
    cases e : isTup d with
    | false =>
      refine iteT (iteT ?_)
      refine ⟨_, rfl, _, rfl, fun dd hdd => ?_⟩
      exact r (-3) (by cases d <;> first | rfl | cases e) dd _ _ (same_upd hdd) upd_same (.int _)
    | true =>
      obtain ⟨ds, rfl⟩ := isTup_is e
      obtain ⟨a, xs, rfl, hR, hP⟩ := dp_tup hd
      have len := dpAll_length hP
      refine iteF ?_
      refine ⟨_, rfl, _, _, rfl, .inr hR, _, _, rfl, rfl, _, rfl, ?_⟩
      by_cases many : ds.length ≤ 240
      · rw [decide_eq_false (show ¬ ((240 : Int) < (xs.length : Nat)) by rw [len]; omega)]
        have er : roadsErr n (.tuple ds) = optI (badRoad n none 0 ds) := if_pos many
        rw [er] at q
        have r : ∀ i, optI (badRoad n none 0 ds) = some i → _ := fun i h => r i (er.trans h)
        refine iteF ?_
        refine ⟨_, rfl, a, _, rfl, hR, for_it walk_enumT (fun i σ H' => ∃ (v3 v4 : Option V) (p : Option (Nat × Nat)), σ = [some (vN n), some (.ref a), v3, v4] ∧ Same H H' ∧ badRoad n none 0 ds = badRoad n p i (ds.drop i) ∧ (i = 0 → p = none) ∧ ∀ i', i = i' + 1 → ∃ q, p = some q ∧ ds[i']? = some (pairD q)) ⟨_, _, none, rfl, (fun _ _ h => h), rfl, (fun _ => rfl), fun i' h => nomatch h⟩ (fun i σ H' _ ⟨_, _, _, _, s1, _⟩ => Same.sqT s1 hR) ?_ ?_⟩
        · rintro i x σ H1 H2 hi ⟨v3, v4, p, rfl, s1, eb, p0, pp⟩ ⟨t, x0, y, rfl, nt, rfl, e1, e2⟩
          obtain ⟨dy, hdy, dd⟩ := dpAll_get hP e2
          have s2 := s1.trans (same_upd (o := .tup [.int (i : Nat), y]) nt)
          rw [drop_get hdy, badRoad_cons] at eb
          cases e1
          refine ⟨t, _, rfl, .inl (.inl upd_same), rfl, _, _, rfl, _, _, rfl, rfl, ?_⟩
          refine ⟨_, rfl, _, rfl, n, y, dy, rfl, Dp.same s2 dd, (pairOf n dy).isSome, rfl, ?_⟩
          cases ep : pairOf n dy with
          | none =>
            rw [ep] at eb
            refine iteT ?_
            refine ⟨_, rfl, _, rfl, fun dx hdx => ?_⟩
            exact r i (by rw [eb]; rfl) dx _ _ (s2.trans (same_upd hdx)) upd_same (.int _)
          | some qr =>
            rw [ep] at eb
            simp only [] at eb
            obtain ⟨rfl, b1, b2⟩ := pairOf_is ep
            obtain ⟨z, rfl, pz⟩ := pair_dp dd
            refine iteF ?_
            refine ⟨_, rfl, _, _, rfl, rfl, _, rfl, ?_⟩
            cases i with
            | zero =>
              rw [decide_eq_false (show ¬ ((0 : Int) < ((0 : Nat) : Int)) by omega)]
              rw [p0 rfl] at eb
              rw [if_pos (show above none qr = true from rfl)] at eb
              refine iteF (iteF ⟨_, _, some qr, rfl, s2, eb, (fun h => nomatch h), fun i' h => ⟨qr, rfl, ?_⟩⟩)
              cases h
              exact hdy
            | succ i' =>
              rw [decide_eq_true (show (0 : Int) < ((i' + 1 : Nat) : Int) by omega)]
              refine iteT ?_
              obtain ⟨q0, rfl, hq0⟩ := pp i' rfl
              obtain ⟨y0, hy0, dy0⟩ := dpAll_getD hP hq0
              obtain ⟨z0, rfl, pz0⟩ := pair_dp dy0
              have ei : atI xs (((i' + 1 : Nat) : Int) - 1) = some (.ref z0) := by
                have e : ((i' + 1 : Nat) : Int) - 1 = (i' : Nat) := by omega
                rw [e]
                exact atI_nat hy0
              refine ⟨_, rfl, _, rfl, _, rfl, _, _, rfl, rfl, a, _, _, _, rfl, rfl, Same.sqT s2 hR, ei, z, z0, [(qr.1 : Int), (qr.2 : Int)], [(q0.1 : Int), (q0.2 : Int)], rfl, rfl, Same.sqT s2 pz, Same.sqT s2 pz0, _, rfl, ?_⟩
              rw [lex_two]
              by_cases lt : ltP q0 qr
              · have e3 : (!decide (ltP (q0.1, q0.2) (qr.1, qr.2))) = false := by rw [decide_eq_true (show ltP (q0.1, q0.2) (qr.1, qr.2) from lt)]; rfl
                rw [e3]
                rw [if_pos (show above (some q0) qr = true from decide_eq_true lt)] at eb
                refine iteF ⟨_, _, some qr, rfl, s2, eb, (fun h => nomatch h), fun j h => ⟨qr, rfl, ?_⟩⟩
                cases h
                exact hdy
              · have e3 : (!decide (ltP (q0.1, q0.2) (qr.1, qr.2))) = true := by rw [decide_eq_false (show ¬ ltP (q0.1, q0.2) (qr.1, qr.2) from lt)]; rfl
                rw [e3]
                rw [if_neg (show ¬ above (some q0) qr = true from fun h => lt (of_decide_eq_true h))] at eb
                refine iteT ?_
                refine ⟨_, rfl, _, rfl, fun dx hdx => ?_⟩
                exact r ((i' + 1 : Nat) : Int) (by rw [eb]; rfl) dx _ _ (s2.trans (same_upd hdx)) upd_same (.int _)
        · rintro σ H1 ⟨v3, v4, p, rfl, s1, eb, _⟩
          rw [len, List.drop_length] at eb
          exact q (by rw [eb]; rfl) H1 s1
      · rw [decide_eq_true (show ((240 : Int) < (xs.length : Nat)) by rw [len]; omega)]
        refine iteT ?_
        refine ⟨_, rfl, _, rfl, fun dx hdx => ?_⟩
        exact r (-3) (if_neg many) dx _ _ (same_upd hdx) upd_same (.int _)
end
end Ft

set_option Elab.async false
set_option linter.all false
set_option maxRecDepth 100000
set_option maxHeartbeats 4000000
namespace Ft
open PySem PySem.Spec PyProof.Rows L2
section
variable {P : Program} {w : World} {K : PySem.W.Frag} {mg : Str → Option Value} {base : Heap} {ca : Str → Addr}
/-! ### made_map, of data -/
theorem mapErr_not {d : PyData} (h : isTup d = false) : mapErr d = some (("BadMap" : Str), -1) := by
  cases d <;> first | rfl | cases h
theorem mapErr_len {ds : List PyData} (h : ds.length ≠ 3) : mapErr (.tuple ds) = some (("BadMap" : Str), -1) := by
  unfold mapErr
  split
  · rename_i a b c e
    cases e
    exact absurd rfl h
  · rfl
theorem mapErr_name {d : PyData} {x : Str} {i : Int} (h : mapErr d = some (x, i)) : x = "BadMap" ∨ x = "BadWish" := by
  unfold mapErr at h
  split at h
  · rename_i p r w
    unfold mapErr3 at h
    split at h
    · cases e : roadsErr (numOf p).toNat r with
      | some j => rw [e] at h; cases h; exact .inl rfl
      | none =>
        rw [e] at h
        cases e2 : wishErr (numOf p).toNat w with
        | some j => rw [e2] at h; cases h; exact .inr rfl
        | none => rw [e2] at h; cases h
    · cases h
      exact .inl rfl
  · cases h
    exact .inl rfl
/-- what is wanted behind a check: the answer, or the error that is due -/
def Due (K : PySem.W.Frag) (ca : Str → Addr) (H : Hp) (E : XK) (e : Option (Str × Int)) (ok : Prop) : Prop := (e = none → ok) ∧ ∀ x i, e = some (x, i) → Raised K ca H E (x, .int i)
def spX_made_map (K : PySem.W.Frag) (ca : Str → Addr) : Sp := fun vs H Q E => ∃ (v : V) (d : PyData), vs = [v] ∧ Dp K H v d ∧ Due K ca H E (mapErr d) (∀ c C c' H', v = .ref c → d = chartD C → C.Ok → Same H H' → IsChart K H' c' C → Q (.ref c') H')
def mapErrN (n : Nat) (rd wd : PyData) : Option (Str × Int) := match roadsErr n rd with
  | some i => some ("BadMap", i)
  | none => match wishErr n wd with
    | some i => some ("BadWish", i)
    | none => none
theorem mapErrN_map {n : Nat} {rd wd : PyData} {i : Int} (h : roadsErr n rd = some i) : mapErrN n rd wd = some (("BadMap" : Str), i) := by unfold mapErrN; rw [h]
theorem mapErrN_wish {n : Nat} {rd wd : PyData} {i : Int} (h : roadsErr n rd = none) (h2 : wishErr n wd = some i) : mapErrN n rd wd = some (("BadWish" : Str), i) := by unfold mapErrN; rw [h, h2]
theorem mapErrN_none {n : Nat} {rd wd : PyData} (h : roadsErr n rd = none) (h2 : wishErr n wd = none) : mapErrN n rd wd = none := by unfold mapErrN; rw [h, h2]
theorem dpAll_three {K : PySem.W.Frag} {H : Hp} {xs : List V} {a b c : PyData} (h : DpAll K H xs [a, b, c]) : ∃ x y z, xs = [x, y, z] ∧ Dp K H x a ∧ Dp K H y b ∧ Dp K H z c := by
  cases h with
  | cons h1 h =>
    cases h with
    | cons h2 h =>
      cases h with
      | cons h3 h =>
        cases h
        exact ⟨_, _, _, rfl, h1, h2, h3⟩
theorem dpAll_two {K : PySem.W.Frag} {H : Hp} {xs : List V} {a b : PyData} (h : DpAll K H xs [a, b]) : ∃ x y, xs = [x, y] ∧ Dp K H x a ∧ Dp K H y b := by
  cases h with
  | cons h1 h =>
    cases h with
    | cons h2 h =>
      cases h
      exact ⟨_, _, rfl, h1, h2⟩
theorem nD_toNat (n : Nat) : (numOf (nD n)).toNat = n := by simp [nD, numOf]
theorem int_nD {i : Int} (h : 0 ≤ i) : PyData.int i = nD (numOf (.int i)).toNat := by
  show PyData.int i = .int ((numOf (.int i)).toNat : Int)
  have : ((numOf (PyData.int i)).toNat : Int) = i := by
    simp only [numOf]
    omega
  rw [this]
theorem cal_made_map (T : Txt mg) (D : Def K mg "made_map" s_made_map) (m_MOST_PLACES : MgI mg "MOST_PLACES" 60) (e_BadMap : Er P w K mg base ca "BadMap") (e_BadWish : Er P w K mg base ca "BadWish") (c_number_within : Cal P w K mg base 2 "number_within" (sp_number_within K)) (c_check_roads : CalX P w K mg base 4 "check_roads" (spX_check_roads K ca))
    (c_first_bad_place : Cal P w K mg base 3 "first_bad_place" (sp_first_bad_place K)) : CalX P w K mg base 5 "made_map" (spX_made_map K ca) := by
  refine calx_of D sc_made_map (fun _ _ _ _ _ _ us hl => match us, hl with | [_], _ => rfl) (fun vs H Q E h => ?_) (fun f cdv A outer s H vs Q E hr h => ?_)
  · obtain ⟨v, d, rfl, _⟩ := h
    rfl
  · obtain ⟨v, d, rfl, hd, q, r⟩ := h
    have r : ∀ x i, mapErr d = some (x, i) → Raised K ca H E (x, .int i) := r
    refine ⟨_, (pss_cons (ps_if (PW.pt (pw_or (pt_not (pt_val (pe_callB (show CallR _ _ (rIsi K) from call_isi) (by rfl) T.isinstance (by decide +kernel) (pa_cons (pv 0) (pa_cons (pe_bltn (v := .ty "tuple") (u := .type "tuple") (by rfl) T.tuple (by decide +kernel) rfl) pa_nil))))) (pw_or1 (pt_cmpR op_ne (pe_callB (show CallR _ _ (rLenS K) from call_lenS) (by rfl) T.len (by decide +kernel) (pa_cons (pv 0) pa_nil)) pe_int (nomark _))))) (pss_one (ps_raiseE rfl e_BadMap hr (by decide) (L2N.takes_of rfl rfl rfl rfl) (by rfl) (pa_cons (pe_un un_neg pe_int) pa_nil))) pss_nil)
      (pss_cons (ps_asg (pv 0) (show PG _ _ (gTup K 3 _) from pg_tup (by rfl) (pgs_cons (pg_name (i := 1) sc_made_map.nd rfl (Or.inl rfl)) (pgs_cons (pg_name (i := 2) sc_made_map.nd rfl (Or.inl rfl)) (pgs_cons (pg_name (i := 3) sc_made_map.nd rfl (Or.inl rfl)) pgs_nil)))))
      (pss_cons (ps_if (pt_not (pt_val (pe_c c_number_within hr (by decide) (by rfl) (pa_cons (pv 1) (pa_cons pe_int (pa_cons (pe_globI (n := 60) rfl m_MOST_PLACES) pa_nil)))))) (pss_one (ps_raiseE rfl e_BadMap hr (by decide) (L2N.takes_of rfl rfl rfl rfl) (by rfl) (pa_cons (pe_un un_neg pe_int) pa_nil))) pss_nil)
      (pss_cons (ps_expr (pe_x (L2N.takes_of rfl rfl rfl rfl) c_check_roads hr (by decide) (by rfl) (pa_cons (pv 1) (pa_cons (pv 2) pa_nil))))
      (pss_cons (ps_if (pt_not (pt_val (pe_callB (show CallR _ _ (rIsi K) from call_isi) (by rfl) T.isinstance (by decide +kernel) (pa_cons (pv 3) (pa_cons (pe_bltn (v := .ty "tuple") (u := .type "tuple") (by rfl) T.tuple (by decide +kernel) rfl) pa_nil))))) (pss_one (ps_raiseE rfl e_BadWish hr (by decide) (L2N.takes_of rfl rfl rfl rfl) (by rfl) (pa_cons (pe_un un_neg pe_int) pa_nil))) pss_nil)
      (pss_cons (ps_set (i := 4) sc_made_map.nd rfl (Or.inl rfl) (pe_c c_first_bad_place hr (by decide) (by rfl) (pa_cons (pv 1) (pa_cons (pv 3) pa_nil))))
      (pss_cons (ps_if (pt_cmpR op_notN (pv 4) pe_non (nomark _)) (pss_one (ps_raiseE rfl e_BadWish hr (by decide) (L2N.takes_of rfl rfl rfl rfl) (by rfl) (pa_cons (pv 4) pa_nil))) pss_nil)
      (pss_one (ps_ret (pe_tup (pa_cons (pv 1) (pa_cons (pv 2) (pa_cons (pv 3) pa_nil))))))))))))), ?_⟩
    refine ⟨_, rfl, _, _, _, _, isTup d, rfl, .ty "tuple", isi_dp hd, kit_tup d, isTup d, rfl, ?_⟩
    cases e : isTup d with
    | false =>
      refine iteT (iteT ?_)
      exact ⟨_, rfl, _, rfl, fun dd hdd => r _ _ (mapErr_not e) dd _ _ (same_upd hdd) upd_same (.int _)⟩
    | true =>
      obtain ⟨ds, rfl⟩ := isTup_is e
      obtain ⟨c, xs, rfl, hC, hP⟩ := dp_tup hd
      have len := dpAll_length hP
      refine iteF ?_
      refine ⟨_, rfl, _, _, rfl, .inr hC, rfl, _, rfl, ?_⟩
      by_cases l : ds.length = 3
      · have e2 : (!decide (V.int ((xs.length : Nat) : Int) = V.int 3)) = false := by
          rw [len, l]
          rfl
        refine ite_any (fun z => absurd (show (!decide (V.int ((xs.length : Nat) : Int) = V.int 3)) = true from z) (by rw [e2]; exact fun h => nomatch h)) (fun _ => ?_)
        obtain ⟨p, rd, wd, rfl⟩ : ∃ a b c, ds = [a, b, c] := by
          match ds, l with
          | [a, b, c], _ => exact ⟨a, b, c, rfl⟩
        obtain ⟨vp, vr, vw, rfl, h1, h2, h3⟩ := dpAll_three hP
        refine ⟨_, rfl, c, _, rfl, hC, rfl, _, _, rfl, _, _, rfl, _, _, rfl, rfl, ?_⟩
        refine ⟨_, rfl, _, p, _, _, rfl, h1, numIn 0 60 p, rfl, ?_⟩
        have em : mapErr (.tuple [p, rd, wd]) = mapErr3 p rd wd := rfl
        rw [em] at q
        have r : ∀ x i, mapErr3 p rd wd = some (x, i) → _ := fun x i h => r x i (em.trans h)
        cases cn : numIn 0 60 p with
        | false =>
          refine iteT ?_
          exact ⟨_, rfl, _, rfl, fun dd hdd => r _ _ (by unfold mapErr3; rw [cn]; rfl) dd _ _ (same_upd hdd) upd_same (.int _)⟩
        | true =>
          obtain ⟨i, rfl, i1, i2⟩ := numIn_is cn
          cases dp_int h1
          obtain ⟨n, ep⟩ : ∃ n : Nat, PyData.int i = nD n := ⟨_, int_nD i1⟩
          have ei : i = (n : Int) := by
            have z : PyData.int i = .int (n : Int) := ep
            cases z
            rfl
          subst ei
          refine iteF ?_
          have e3 : mapErr3 (nD n) rd wd = mapErrN n rd wd := by
            unfold mapErr3 mapErrN
            rw [if_pos (by rw [numIn_nat]; omega), nD_toNat]
            cases roadsErr n rd with
            | some i => rfl
            | none => cases wishErr n wd <;> rfl
          have r : ∀ x i, mapErrN n rd wd = some (x, i) → Raised K ca H E (x, .int i) := fun x i h => r x i (e3.trans h)
          have q : mapErrN n rd wd = none → _ := fun h => q (e3.trans h)
          refine ⟨_, rfl, _, rfl, n, vr, rd, rfl, h2, fun er H1 s1 => ?_, fun j er => ?_⟩
          · have h31 := Dp.same s1 h3
            refine ⟨_, rfl, _, _, _, _, isTup wd, rfl, .ty "tuple", isi_dp h31, kit_tup wd, isTup wd, rfl, ?_⟩
            cases ew : isTup wd with
            | false =>
              have ew' : wishErr n wd = some (-1) := by cases wd <;> first | rfl | cases ew
              refine iteT ?_
              exact ⟨_, rfl, _, rfl, fun dd hdd => r _ _ (mapErrN_wish er ew') dd _ _ (s1.trans (same_upd hdd)) upd_same (.int _)⟩
            | true =>
              obtain ⟨wds, rfl⟩ := isTup_is ew
              obtain ⟨wa, ys, rfl, hW, hWs⟩ := dp_tup h31
              refine iteF ?_
              refine ⟨_, rfl, _, rfl, n, wa, ys, wds, rfl, hW, hWs, fun H2 s2 => ?_⟩
              have s12 := s1.trans s2
              have ew2 : wishErr n (.tuple wds) = optI (badPlace n (-1) 0 wds) := rfl
              cases eb : badPlace n (-1) 0 wds with
              | some k =>
                refine ⟨_, rfl, rfl, _, rfl, iteT ?_⟩
                exact ⟨_, rfl, _, rfl, fun dd hdd => r _ _ (mapErrN_wish er (by rw [ew2, eb]; rfl)) dd _ _ (s12.trans (same_upd hdd)) upd_same (.int _)⟩
              | none =>
                refine ⟨_, rfl, rfl, _, rfl, iteF ?_⟩
                have e1 : mapErrN n rd (.tuple wds) = none := mapErrN_none er (by rw [ew2, eb]; rfl)
                have e0 : mapErr3 (nD n) rd (.tuple wds) = none := e3.trans e1
                obtain ⟨C, ok, p1, p2, p3⟩ := mapErr3_none e0
                refine ⟨_, rfl, _, rfl, _, rfl, (by show 3 ≤ sizeLine; decide), fun p' hp => ?_⟩
                have s3 := s12.trans (same_upd (o := .tup [vN n, vr, .ref wa]) hp)
                have dd : Dp K (upd H2 p' (.tup [vN n, vr, .ref wa])) (.ref p') (chartD C) := by
                  have z : chartD C = .tuple [nD n, rd, .tuple wds] := by
                    unfold chartD
                    rw [← p1, ← p2, ← p3]
                  rw [z]
                  exact .tup (.inl (.inl upd_same)) (.cons (.int _) (.cons (Dp.same s3 h2) (.cons (Dp.same (s2.trans (same_upd hp)) h31) .nil)))
                obtain ⟨c2, ec, isC⟩ := chart_dp dd
                cases ec
                refine q e1 c C p' _ rfl ?_ ok s3 isC
                show PyData.tuple [nD n, rd, .tuple wds] = _
                unfold chartD
                rw [← p1, ← p2, ← p3]
          · intro dd H' v s' hdd hv
            exact r _ _ (mapErrN_map er) dd H' v s' hdd hv
      · refine ite_any (fun _ => ?_) (fun z => absurd (show (!decide (V.int ((xs.length : Nat) : Int) = V.int 3)) = false from z) (by
          rw [len, decide_eq_false]
          · exact fun h => nomatch h
          · intro z
            have z' := V.int.inj z
            omega))
        exact ⟨_, rfl, _, rfl, fun dd hdd => r _ _ (mapErr_len l) dd _ _ (same_upd hdd) upd_same (.int _)⟩
/-- of a map -/
def sp_made_map (K : PySem.W.Frag) : Sp := fun vs H Q _ => ∃ (c : Addr) (C : Chart), vs = [.ref c] ∧ IsChart K H c C ∧ C.Ok ∧ ∀ c' H', Same H H' → IsChart K H' c' C → Q (.ref c') H'
theorem chartD_inj {C C' : Chart} (h : chartD C = chartD C') : C = C' := by
  obtain ⟨n, rs, ws⟩ := C
  obtain ⟨n', rs', ws'⟩ := C'
  unfold chartD lotD at h
  simp only [PyData.tuple.injEq, List.cons.injEq, and_true] at h
  obtain ⟨h1, h2, h3⟩ := h
  have inN : ∀ {a b : Nat}, nD a = nD b → a = b := fun {a b} z => by
    have z' : PyData.int (a : Int) = .int (b : Int) := z
    cases z'
    rfl
  have inL : ∀ {f : Nat → PyData} {g : Nat → PyData}, True := fun {_ _} => trivial
  have e3 : ws = ws' := by
    refine List.map_inj_right (f := nD) (fun {a b} z => inN z) |>.mp h3
  have e2 : rs = rs' := by
    refine List.map_inj_right (f := pairD) (fun {a b} z => ?_) |>.mp h2
    unfold pairD at z
    simp only [PyData.tuple.injEq, List.cons.injEq, and_true] at z
    exact Prod.ext (inN z.1) (inN z.2)
  rw [inN h1, e2, e3]
theorem lotD_inj {ws ws' : List Nat} (h : lotD ws = lotD ws') : ws = ws' := by
  unfold lotD at h
  simp only [PyData.tuple.injEq] at h
  exact List.map_inj_right (f := nD) (fun {a b} z => by
    have z' : PyData.int (a : Int) = .int (b : Int) := z
    cases z'
    rfl) |>.mp h
theorem calv_made_map (c_made_map : CalX P w K mg base 5 "made_map" (spX_made_map K ca)) : Cal P w K mg base 5 "made_map" (sp_made_map K) :=
  c_made_map.valid fun vs H Q E ⟨c, C, e, isC, ok, q⟩ => ⟨_, _, e, dp_chart isC, fun _ c0 C' c' H' ec eC _ s' isC' => q c' H' s' (by rw [chartD_inj eC]; exact isC'), fun x i h => by rw [mapErr_chart ok] at h; cases h⟩
end
end Ft

set_option Elab.async false
set_option linter.all false
set_option maxRecDepth 100000
set_option maxHeartbeats 4000000
namespace Ft
open PySem PySem.Spec PyProof.Rows L2
section
variable {P : Program} {w : World} {K : PySem.W.Frag} {mg : Str → Option Value} {base : Heap} {ca : Str → Addr}
/-! ### place_fits, check_place, lot_fits, check_lot, of data -/
def rngD (n : Nat) (d : PyData) : Bool := numIn 0 ((n : Int) - 1) d
theorem rngD_nat {n i : Nat} (h : i < n) : rngD n (nD i) = true := numIn_nat.mpr ⟨by omega, by omega⟩
theorem rngD_is {n : Nat} {d : PyData} (h : rngD n d = true) : ∃ i, d = nD i ∧ i < n := by
  obtain ⟨i, rfl, h1, h2⟩ := numIn_is h
  refine ⟨i.toNat, ?_, by omega⟩
  show PyData.int i = .int (i.toNat : Int)
  rw [show ((i.toNat : Nat) : Int) = i by omega]
def sp_lot_fits (K : PySem.W.Frag) : Sp := fun vs H Q _ => ∃ (c r wd : Addr) (n : Nat) (v : V) (d : PyData), vs = [.ref c, v] ∧ SqT K H c [vN n, .ref r, .ref wd] ∧ Dp K H v d ∧ ∀ H', Same H H' → Q (.bl (lotOk n d)) H'
theorem cal_lot_fits (T : Txt mg) (D : Def K mg "lot_fits" s_lot_fits) (c_first_bad_place : Cal P w K mg base 3 "first_bad_place" (sp_first_bad_place K)) : Cal P w K mg base 4 "lot_fits" (sp_lot_fits K) := by
  refine cal_of D sc_lot_fits (fun _ _ _ _ _ _ us hl => match us, hl with | [_, _], _ => rfl) (fun vs H Q E h => ?_) (fun f cdv A outer s H vs Q E hr h => ?_)
  · obtain ⟨c, r, wd, n, v, d, rfl, _⟩ := h
    rfl
  · obtain ⟨c, r, wd, n, v, d, rfl, hc, hd, q⟩ := h
    refine ⟨_, (pss_one (ps_ret (pe_and (pe_callB (show CallR _ _ (rIsi K) from call_isi) (by rfl) T.isinstance (by decide +kernel) (pa_cons (pv 1) (pa_cons (pe_bltn (v := .ty "tuple") (u := .type "tuple") (by rfl) T.tuple (by decide +kernel) rfl) pa_nil))) (pe_one (pe_cmpR op_isN (pe_c c_first_bad_place hr (by decide) (by rfl) (pa_cons (pe_ix (show IxR _ (rIxT K) from ix_tup) (pv 0) pe_int (fun _ _ => rfl)) (pa_cons (pv 1) pa_nil))) pe_non (nomark _)))))), ?_⟩
    refine ⟨_, rfl, _, _, _, _, isTup d, rfl, .ty "tuple", isi_dp hd, kit_tup d, isTup d, rfl, ?_⟩
    cases e : isTup d with
    | false =>
      have : lotOk n d = false := by cases d <;> first | rfl | cases e
      rw [this] at q
      exact iteF (q H fun _ _ h => h)
    | true =>
      obtain ⟨ds, rfl⟩ := isTup_is e
      obtain ⟨a, xs, rfl, hT, hD⟩ := dp_tup hd
      refine iteT ?_
      refine ⟨_, rfl, _, _, _, _, rfl, rfl, hc, rfl, _, rfl, n, a, xs, ds, rfl, hT, hD, fun H2 s2 => ?_⟩
      have z := q H2 s2
      have e2 : lotOk n (.tuple ds) = (badPlace n (-1) 0 ds).isNone := rfl
      rw [e2] at z
      cases eb : badPlace n (-1) 0 ds with
      | none =>
        rw [eb] at z
        exact ⟨rfl, z⟩
      | some k =>
        rw [eb] at z
        exact ⟨rfl, z⟩
def spX_check_lot (K : PySem.W.Frag) (ca : Str → Addr) : Sp := fun vs H Q E => ∃ (c r wd : Addr) (n : Nat) (v : V) (d : PyData), vs = [.ref c, v] ∧ SqT K H c [vN n, .ref r, .ref wd] ∧ Dp K H v d ∧ (lotOk n d = true → ∀ H', Same H H' → Q .non H') ∧ (lotOk n d = false → Raised K ca H E ("BadLot", .int (-1)))
theorem cal_check_lot (T : Txt mg) (D : Def K mg "check_lot" s_check_lot) (e_BadLot : Er P w K mg base ca "BadLot") (c_lot_fits : Cal P w K mg base 4 "lot_fits" (sp_lot_fits K)) : CalX P w K mg base 5 "check_lot" (spX_check_lot K ca) := by
  refine calx_of D sc_check_lot (fun _ _ _ _ _ _ us hl => match us, hl with | [_, _], _ => rfl) (fun vs H Q E h => ?_) (fun f cdv A outer s H vs Q E hr h => ?_)
  · obtain ⟨c, r, wd, n, v, d, rfl, _⟩ := h
    rfl
  · obtain ⟨c, r, wd, n, v, d, rfl, hc, hd, q1, q2⟩ := h
    refine ⟨_, (pss_one (ps_if (pt_not (pt_val (pe_c c_lot_fits hr (by decide) (by rfl) (pa_cons (pv 0) (pa_cons (pv 1) pa_nil))))) (pss_one (ps_raiseE rfl e_BadLot hr (by decide) (L2N.takes_of rfl rfl rfl rfl) (by rfl) (pa_cons (pe_un un_neg pe_int) pa_nil))) pss_nil)), ?_⟩
    refine ⟨_, rfl, _, rfl, c, r, wd, n, v, d, rfl, hc, hd, fun H2 s2 => ⟨lotOk n d, rfl, ?_⟩⟩
    cases e : lotOk n d with
    | true => exact iteF (q1 e H2 s2)
    | false => exact iteT ⟨_, rfl, _, rfl, fun dd hdd => q2 e dd _ _ (s2.trans (same_upd hdd)) upd_same (.int _)⟩
def sp_check_lot (K : PySem.W.Frag) : Sp := fun vs H Q _ => ∃ (c t r wd : Addr) (n : Nat) (T : List Nat), vs = [.ref c, .ref t] ∧ SqT K H c [vN n, .ref r, .ref wd] ∧ SqT K H t (T.map vN) ∧ (∀ x ∈ T, x < n) ∧ T.Pairwise (· < ·) ∧ ∀ H', Same H H' → Q .non H'
theorem calv_check_lot (c_check_lot : CalX P w K mg base 5 "check_lot" (spX_check_lot K ca)) : Cal P w K mg base 5 "check_lot" (sp_check_lot K) :=
  c_check_lot.valid fun vs H Q E ⟨c, t, r, wd, n, T, e, hc, hT, lt, up, q⟩ => ⟨c, r, wd, n, _, _, e, hc, dp_lot hT, fun _ => q, fun h => by rw [lotOk_lot up lt] at h; cases h⟩
end
end Ft

set_option Elab.async false
set_option linter.all false
set_option maxRecDepth 100000
set_option maxHeartbeats 4000000
/-! Plain mathematics: ascending lists, reach -/
namespace Ft
theorem asc_ext : ∀ {l1 l2 : List Nat}, l1.Pairwise (· < ·) → l2.Pairwise (· < ·) → (∀ x, x ∈ l1 ↔ x ∈ l2) → l1 = l2
  | [], [], _, _, _ => rfl
  | [], b :: l2, _, _, h => absurd ((h b).mpr List.mem_cons_self) List.not_mem_nil
  | a :: l1, [], _, _, h => absurd ((h a).mp List.mem_cons_self) List.not_mem_nil
  | a :: l1, b :: l2, h1, h2, h => by
    obtain ⟨a1, p1⟩ := List.pairwise_cons.mp h1
    obtain ⟨a2, p2⟩ := List.pairwise_cons.mp h2
    have e : a = b := by
      rcases List.mem_cons.mp ((h a).mp List.mem_cons_self) with e | m
      · exact e
      · rcases List.mem_cons.mp ((h b).mpr List.mem_cons_self) with e | m'
        · exact e.symm
        · have := a2 a m
          have := a1 b m'
          omega
    subst e
    refine congrArg (a :: ·) (asc_ext p1 p2 fun x => ⟨fun m => ?_, fun m => ?_⟩)
    · rcases List.mem_cons.mp ((h x).mp (List.mem_cons_of_mem _ m)) with e | m'
      · have := a1 x m
        omega
      · exact m'
    · rcases List.mem_cons.mp ((h x).mpr (List.mem_cons_of_mem _ m)) with e | m'
      · have := a2 x m
        omega
      · exact m'
/-- the places below n with a property, ascending -/
noncomputable def those (n : Nat) (P : Nat → Prop) : List Nat := (List.range n).filter fun b => @decide (P b) (Classical.propDecidable _)
theorem range_up (n : Nat) : (List.range n).Pairwise (· < ·) := List.pairwise_lt_range
theorem those_up (n : Nat) (P : Nat → Prop) : (those n P).Pairwise (· < ·) := (range_up n).filter _
theorem those_mem {n : Nat} {P : Nat → Prop} {b : Nat} : b ∈ those n P ↔ b < n ∧ P b := by
  unfold those
  rw [List.mem_filter, List.mem_range]
  simp
theorem those_is {n : Nat} {P : Nat → Prop} {l : List Nat} (up : l.Pairwise (· < ·)) (h : ∀ x, x ∈ l ↔ x < n ∧ P x) : l = those n P :=
  asc_ext up (those_up n P) fun x => (h x).trans those_mem.symm
/-- a sorted copy of numbers -/
theorem sorted_iN {F : List Nat} (nd : F.Nodup) {ys : List Int} (pm : ys.Perm (F.map fun (n : Nat) => (n : Int))) (up : ys.Pairwise (· ≤ ·)) :
    ∃ l : List Nat, ys = l.map (fun (n : Nat) => (n : Int)) ∧ l.Pairwise (· < ·) ∧ ∀ x, x ∈ l ↔ x ∈ F := by
  have nn : ∀ y ∈ ys, 0 ≤ y := by
    intro y hy
    obtain ⟨n, _, e⟩ := List.mem_map.mp (pm.mem_iff.mp hy)
    omega
  have e : ys = (ys.map Int.toNat).map (fun (n : Nat) => (n : Int)) := by
    rw [List.map_map]
    conv => lhs; rw [← List.map_id ys]
    exact List.map_congr_left fun y hy => (Int.toNat_of_nonneg (nn y hy)).symm
  have ndy : ys.Nodup := by
    refine pm.nodup_iff.mpr ?_
    exact List.pairwise_map.mpr (nd.imp fun h e => h (by omega))
  refine ⟨ys.map Int.toNat, e, ?_, fun x => ?_⟩
  · refine List.pairwise_map.mpr ?_
    have both : ys.Pairwise fun a b => a ≤ b ∧ a ≠ b := List.Pairwise.and up ndy
    refine List.Pairwise.imp_of_mem (fun {a b} ha hb h => ?_) both
    have h1 := nn a ha
    have h2 := nn b hb
    omega
  · constructor
    · intro h
      obtain ⟨y, hy, e1⟩ := List.mem_map.mp h
      obtain ⟨n, hn, e2⟩ := List.mem_map.mp (pm.mem_iff.mp hy)
      have : n = x := by omega
      exact this ▸ hn
    · intro h
      have : (x : Int) ∈ ys := pm.mem_iff.mpr (List.mem_map.mpr ⟨x, h, rfl⟩)
      exact List.mem_map.mpr ⟨(x : Int), this, by omega⟩
/-- from a place along roads over unwished places -/
inductive Reach (rs : List (Nat × Nat)) (ws : List Nat) : Nat → Nat → Prop
  | one {a b : Nat} : (a, b) ∈ rs → Reach rs ws a b
  | more {a b c : Nat} : Reach rs ws a b → b ∉ ws → (b, c) ∈ rs → Reach rs ws a c
theorem Reach.cons {rs : List (Nat × Nat)} {ws : List Nat} {a b c : Nat} (h : (a, b) ∈ rs) (hb : b ∉ ws) (r : Reach rs ws b c) : Reach rs ws a c := by
  induction r with
  | one h2 => exact .more (.one h) hb h2
  | more _ h2 h3 ih => exact .more ih h2 h3
theorem Reach.trans {rs : List (Nat × Nat)} {ws : List Nat} {a b c : Nat} (r : Reach rs ws a b) (hb : b ∉ ws) (q : Reach rs ws b c) : Reach rs ws a c := by
  induction q with
  | one h2 => exact .more r hb h2
  | more _ h2 h3 ih => exact .more ih h2 h3
/-- what is closed and holds the first steps holds all -/
theorem Reach.within {rs : List (Nat × Nat)} {ws : List Nat} {S : Nat → Prop} {a b : Nat} (r : Reach rs ws a b) (h1 : ∀ x, (a, x) ∈ rs → S x) (h2 : ∀ x y, S x → x ∉ ws → (x, y) ∈ rs → S y) : S b := by
  induction r with
  | one h => exact h1 _ h
  | more _ hb h ih => exact h2 _ _ ih hb h
/-- the places that some place of S comes to -/
noncomputable def met (n : Nat) (rs : List (Nat × Nat)) (ws S : List Nat) : List Nat := those n fun b => ∃ a ∈ S, Reach rs ws a b
end Ft

set_option Elab.async false
set_option linter.all false
set_option maxRecDepth 100000
set_option maxHeartbeats 4000000
/-! Plain mathematics: how many roads are left, from each place -/
namespace Ft
/-- the numbers that belong to the places from which a wished place is come to without a trap -/
structure Left (n : Nat) (rs : List (Nat × Nat)) (ws T : List Nat) (L : List (Nat × Nat)) : Prop where
  nd : (L.map (·.1)).Nodup
  lt : ∀ p ∈ L, p.1 < n ∧ p.1 ∉ T
  zero : ∀ b, (b, 0) ∈ L ↔ b ∈ ws ∧ b ∉ T
  succ : ∀ b k, (b, k + 1) ∈ L → b ∉ ws ∧ ∃ c, (b, c) ∈ rs ∧ (c, k) ∈ L
  near : ∀ b c j, (b, c) ∈ rs → b ∉ ws → b ∉ T → (c, j) ∈ L → ∃ k, k ≤ j + 1 ∧ (b, k) ∈ L
/-- .. while they are being found: m rounds are done, those in A came last -/
structure Lefting (n : Nat) (rs : List (Nat × Nat)) (ws T : List Nat) (m : Nat) (L : List (Nat × Nat)) (A : List Nat) : Prop where
  nd : (L.map (·.1)).Nodup
  lt : ∀ p ∈ L, p.1 < n ∧ p.1 ∉ T
  zero : ∀ b, (b, 0) ∈ L ↔ b ∈ ws ∧ b ∉ T
  succ : ∀ b k, (b, k + 1) ∈ L → b ∉ ws ∧ ∃ c, (b, c) ∈ rs ∧ (c, k) ∈ L
  top : ∀ p ∈ L, p.2 ≤ m
  near : ∀ b c j, (b, c) ∈ rs → b ∉ ws → b ∉ T → j < m → (c, j) ∈ L → ∃ k, k ≤ j + 1 ∧ (b, k) ∈ L
  last : ∀ b, b ∈ A ↔ (b, m) ∈ L
theorem key_mem {L : List (Nat × Nat)} {b : Nat} : b ∈ L.map (·.1) ↔ ∃ k, (b, k) ∈ L := by
  rw [List.mem_map]
  exact ⟨fun ⟨⟨x, k⟩, h, e⟩ => ⟨k, by cases e; exact h⟩, fun ⟨k, h⟩ => ⟨(b, k), h, rfl⟩⟩
theorem Lefting.start {n : Nat} {rs : List (Nat × Nat)} {ws T W : List Nat} (inW : ∀ a ∈ ws, a < n) (nd : W.Nodup) (hW : ∀ b, b ∈ W ↔ b ∈ ws ∧ b ∉ T) : Lefting n rs ws T 0 (W.map fun b => (b, 0)) W := by
  have mem : ∀ b k, (b, k) ∈ W.map (fun b => (b, 0)) ↔ b ∈ W ∧ k = 0 := by
    intro b k
    rw [List.mem_map]
    exact ⟨fun ⟨x, h, e⟩ => by cases e; exact ⟨h, rfl⟩, fun ⟨h, e⟩ => ⟨b, h, by rw [e]⟩⟩
  refine ⟨?_, ?_, ?_, ?_, ?_, ?_, ?_⟩
  · rw [List.map_map]
    have : W.map ((fun p : Nat × Nat => p.1) ∘ fun b => (b, 0)) = W := by
      conv => rhs; rw [← List.map_id W]
      rfl
    rw [this]
    exact nd
  · rintro ⟨b, k⟩ h
    have := (hW b).mp ((mem b k).mp h).1
    exact ⟨inW b this.1, this.2⟩
  · intro b
    rw [mem, hW]
    exact ⟨fun h => h.1, fun h => ⟨h, rfl⟩⟩
  · intro b k h
    exact absurd ((mem _ _).mp h).2 (by omega)
  · rintro ⟨b, k⟩ h
    exact Nat.le_of_eq ((mem _ _).mp h).2
  · intro b c j _ _ _ h
    exact absurd h (Nat.not_lt_zero _)
  · intro b
    rw [mem]
    exact ⟨fun h => ⟨h, rfl⟩, fun h => h.1⟩
theorem Lefting.step {n : Nat} {rs : List (Nat × Nat)} {ws T A A' : List Nat} {m : Nat} {L : List (Nat × Nat)} (h : Lefting n rs ws T m L A) (inR : ∀ p ∈ rs, p.1 < n ∧ p.2 < n) (nd : A'.Nodup) (hA : ∀ a, a ∈ A' ↔ (∃ b ∈ A, (a, b) ∈ rs) ∧ a ∉ ws ∧ a ∉ T ∧ a ∉ L.map (·.1)) :
    Lefting n rs ws T (m + 1) (L ++ A'.map fun a => (a, m + 1)) A' := by
  have mem : ∀ b k, (b, k) ∈ A'.map (fun a => (a, m + 1)) ↔ b ∈ A' ∧ k = m + 1 := by
    intro b k
    rw [List.mem_map]
    exact ⟨fun ⟨x, h, e⟩ => by cases e; exact ⟨h, rfl⟩, fun ⟨h, e⟩ => ⟨b, h, by rw [e]⟩⟩
  refine ⟨?_, ?_, ?_, ?_, ?_, ?_, ?_⟩
  · rw [List.map_append, List.map_map]
    have : A'.map ((fun p : Nat × Nat => p.1) ∘ fun a => (a, m + 1)) = A' := by
      conv => rhs; rw [← List.map_id A']
      rfl
    rw [this, List.nodup_append]
    exact ⟨h.nd, nd, fun x hx y hy e => ((hA y).mp hy).2.2.2 (e ▸ hx)⟩
  · rintro ⟨b, k⟩ hb
    rcases List.mem_append.mp hb with hb | hb
    · exact h.lt _ hb
    · obtain ⟨⟨c, _, hr⟩, _, ht, _⟩ := (hA b).mp ((mem b k).mp hb).1
      exact ⟨(inR _ hr).1, ht⟩
  · intro b
    rw [List.mem_append, mem, ← h.zero b]
    exact ⟨fun q => q.elim id fun q => absurd q.2 (by omega), .inl⟩
  · intro b k hb
    rcases List.mem_append.mp hb with hb | hb
    · obtain ⟨h1, c, h2, h3⟩ := h.succ b k hb
      exact ⟨h1, c, h2, List.mem_append_left _ h3⟩
    · obtain ⟨hm, e⟩ := (mem _ _).mp hb
      obtain ⟨⟨c, hc, hr⟩, hw, _⟩ := (hA b).mp hm
      have ek : k = m := by omega
      rw [ek]
      exact ⟨hw, c, hr, List.mem_append_left _ ((h.last c).mp hc)⟩
  · rintro ⟨b, k⟩ hb
    rcases List.mem_append.mp hb with hb | hb
    · exact Nat.le_succ_of_le (h.top _ hb)
    · exact Nat.le_of_eq ((mem _ _).mp hb).2
  · intro b c j hr hw ht hj hc
    have hc' : (c, j) ∈ L := by
      rcases List.mem_append.mp hc with hc | hc
      · exact hc
      · exact absurd ((mem _ _).mp hc).2 (by omega)
    by_cases e : j = m
    · by_cases hk : b ∈ L.map (·.1)
      · obtain ⟨k, hk⟩ := key_mem.mp hk
        exact ⟨k, by have : k ≤ m := h.top _ hk; omega, List.mem_append_left _ hk⟩
      · refine ⟨m + 1, by omega, List.mem_append_right _ ((mem _ _).mpr ⟨(hA b).mpr ⟨⟨c, (h.last c).mpr (e ▸ hc'), hr⟩, hw, ht, hk⟩, rfl⟩)⟩
    · obtain ⟨k, h1, h2⟩ := h.near b c j hr hw ht (by omega) hc'
      exact ⟨k, h1, List.mem_append_left _ h2⟩
  · intro b
    rw [List.mem_append, mem]
    constructor
    · intro hb
      exact .inr ⟨hb, rfl⟩
    · rintro (hb | hb)
      · have : m + 1 ≤ m := h.top _ hb
        omega
      · exact hb.1
theorem Lefting.ends {n : Nat} {rs : List (Nat × Nat)} {ws T : List Nat} {m : Nat} {L : List (Nat × Nat)} (h : Lefting n rs ws T m L []) : Left n rs ws T L := by
  refine ⟨h.nd, h.lt, h.zero, h.succ, fun b c j hr hw ht hc => ?_⟩
  have h1 : j ≤ m := h.top _ hc
  by_cases e : j = m
  · exact absurd ((h.last c).mpr (e ▸ hc)) List.not_mem_nil
  · exact h.near b c j hr hw ht (by omega) hc
theorem len_of_lt (l : List Nat) (n : Nat) (nd : l.Nodup) (b : ∀ x ∈ l, x < n) : l.length ≤ n := by
  have := L2.nat_nodup_len l (List.range n) nd fun x hx => List.mem_range.mpr (b x hx)
  rwa [List.length_range] at this
theorem Lefting.len {n : Nat} {rs : List (Nat × Nat)} {ws T A : List Nat} {m : Nat} {L : List (Nat × Nat)} (h : Lefting n rs ws T m L A) : L.length ≤ n := by
  have := len_of_lt (L.map (·.1)) n h.nd fun x hx => by
    obtain ⟨p, hp, rfl⟩ := List.mem_map.mp hx
    exact (h.lt p hp).1
  rwa [List.length_map] at this
theorem Left.one {n : Nat} {rs : List (Nat × Nat)} {ws T : List Nat} {L : List (Nat × Nat)} (h : Left n rs ws T L) {b k j : Nat} (h1 : (b, k) ∈ L) (h2 : (b, j) ∈ L) : k = j := by
  have : ∀ (L : List (Nat × Nat)), (L.map (·.1)).Nodup → (b, k) ∈ L → (b, j) ∈ L → k = j := by
    intro L
    induction L with
    | nil => intro _ z; exact absurd z List.not_mem_nil
    | cons p L ih =>
      intro nd m1 m2
      rw [List.map_cons] at nd
      obtain ⟨n1, n2⟩ := List.nodup_cons.mp nd
      rcases List.mem_cons.mp m1 with e1 | m1
      · rcases List.mem_cons.mp m2 with e2 | m2
        · have := e1.trans e2.symm
          injection this
        · exact absurd (key_mem.mpr ⟨j, m2⟩) (by rw [← e1] at n1; exact n1)
      · rcases List.mem_cons.mp m2 with e2 | m2
        · exact absurd (key_mem.mpr ⟨k, m1⟩) (by rw [← e2] at n1; exact n1)
        · exact ih n2 m1 m2
  exact this L h.nd h1 h2
/-- no number is greater than there are places -/
theorem Left.many {n : Nat} {rs : List (Nat × Nat)} {ws T : List Nat} {L : List (Nat × Nat)} (h : Left n rs ws T L) : ∀ (k b : Nat), (b, k) ∈ L → k < n := by
  have ex : ∀ (k b : Nat), (b, k) ∈ L → ∃ l : List Nat, l.length = k + 1 ∧ l.Nodup ∧ ∀ x ∈ l, ∃ j, j ≤ k ∧ (x, j) ∈ L := by
    intro k
    induction k with
    | zero => exact fun b hb => ⟨[b], rfl, by simp, fun x hx => ⟨0, Nat.le_refl _, by rw [List.mem_singleton.mp hx]; exact hb⟩⟩
    | succ k ih =>
      intro b hb
      obtain ⟨_, c, _, hc⟩ := h.succ b k hb
      obtain ⟨l, h1, h2, h3⟩ := ih c hc
      refine ⟨b :: l, by rw [List.length_cons, h1], List.nodup_cons.mpr ⟨fun m => ?_, h2⟩, fun x hx => ?_⟩
      · obtain ⟨j, hj, hx⟩ := h3 b m
        have := h.one hb hx
        omega
      · rcases List.mem_cons.mp hx with e | hx
        · exact ⟨k + 1, Nat.le_refl _, e ▸ hb⟩
        · obtain ⟨j, hj, hm⟩ := h3 x hx
          exact ⟨j, by omega, hm⟩
  intro k b hb
  obtain ⟨l, h1, h2, h3⟩ := ex k b hb
  have := len_of_lt l n h2 fun x hx => by
    obtain ⟨j, _, hm⟩ := h3 x hx
    exact (h.lt _ hm).1
  omega
end Ft

set_option Elab.async false
set_option linter.all false
set_option maxRecDepth 100000
set_option maxHeartbeats 4000000
namespace Ft
open PySem PySem.Spec PyProof.Rows L2
/-- the places to which roads of the row lead from a, in the row's order -/
def succs (rs : List (Nat × Nat)) (a : Nat) : List Nat := (rs.filter fun p => p.1 == a).map (·.2)
theorem succs_more (rs : List (Nat × Nat)) (p : Nat × Nat) (a : Nat) : succs (rs ++ [p]) a = if p.1 = a then succs rs a ++ [p.2] else succs rs a := by
  unfold succs
  rw [List.filter_append, List.map_append]
  by_cases h : p.1 = a
  · rw [if_pos h]
    have : (p.1 == a) = true := by simp [h]
    simp [List.filter_cons, this]
  · rw [if_neg h]
    have : (p.1 == a) = false := by simp [h]
    simp [List.filter_cons, this]
theorem succs_len (rs : List (Nat × Nat)) (a : Nat) : (succs rs a).length ≤ rs.length := by
  unfold succs
  rw [List.length_map]
  exact List.length_filter_le _ _
theorem succs_mem {rs : List (Nat × Nat)} {a b : Nat} : b ∈ succs rs a ↔ (a, b) ∈ rs := by
  unfold succs
  simp only [List.mem_map, List.mem_filter, beq_iff_eq]
  constructor
  · rintro ⟨⟨x, y⟩, ⟨h1, h2⟩, h3⟩
    dsimp at h2 h3
    subst h2 h3
    exact h1
  · intro h
    exact ⟨(a, b), ⟨h, rfl⟩, rfl⟩
theorem nodup_inj {α : Type} {l : List α} (nd : l.Nodup) {i j : Nat} {a : α} (hi : l[i]? = some a) (hj : l[j]? = some a) : i = j := by
  obtain ⟨h1, e1⟩ := List.getElem?_eq_some_iff.mp hi
  obtain ⟨h2, e2⟩ := List.getElem?_eq_some_iff.mp hj
  have ap := List.pairwise_iff_getElem.mp nd
  rcases Nat.lt_trichotomy i j with h | h | h
  · exact absurd (e1.trans e2.symm) (ap i j h1 h2 h)
  · exact h
  · exact absurd (e2.trans e1.symm) (ap j i h2 h1 h)
theorem take_more {α : Type} {l : List α} {i : Nat} {x : α} (h : l[i]? = some x) : l.take (i + 1) = l.take i ++ [x] := by
  rw [List.take_add_one, h]
  rfl
section
variable {P : Program} {w : World} {K : PySem.W.Frag} {mg : Str → Option Value} {base : Heap} {t1 t2 : Tok}
/-! ### roads_from -/
/-- a list of lists of places stands at q -/
structure LotsAt (H : Hp) (q : Addr) (ls : List Addr) (f : Nat → List Nat) : Prop where
  top : H q = some (.lst (ls.map V.ref))
  each : ∀ a l, ls[a]? = some l → H l = some (.lst ((f a).map vN))
def sp_roads_from (K : PySem.W.Frag) : Sp := fun vs H Q _ => ∃ (c : Addr) (C : Chart), vs = [.ref c] ∧ IsChart K H c C ∧ C.Ok ∧ ∀ q ls H', Same H H' → ls.length = C.n → LotsAt H' q ls (succs C.roads) → Q (.ref q) H'
theorem cal_roads_from (T : Txt mg) (D : Def K mg "roads_from" s_roads_from) : Cal P w K mg base 2 "roads_from" (sp_roads_from K) := by
  refine cal_of D sc_roads_from (fun _ _ _ _ _ _ us hl => match us, hl with | [_], _ => rfl) (fun vs H Q E h => ?_) (fun f cdv A outer s H vs Q E hr h => ?_)
  · obtain ⟨c, C, rfl, _⟩ := h
    rfl
  · obtain ⟨c, C, rfl, ⟨r, wd, ts, hC⟩, ok, q⟩ := h
    have n60 := ok.n60
    refine ⟨_, (pss_cons (ps_setLc (i := 1) (own := [("_", 4)]) rfl sc_roads_from.nd rfl rfl (sw_true rfl rfl rfl (by decide +kernel)) (pi_range1 (by rfl) T.range (pa_cons (pe_ix (show IxR _ (rIxT K) from ix_tup) (pv 0) pe_int (fun _ _ => rfl)) pa_nil)) (blkOk_by (N := ["chart", "targets", "a", "b", "_"]) (sc := L2.defScope s_roads_from) (by decide +kernel)) (fun _ _ _ _ _ => (pg_name (i := 4) sc_roads_from.nd rfl (Or.inl rfl))) (fun _ _ _ _ _ => pts_nil) (fun _ _ _ _ _ => (pe_lst pa_nil)))
      (pss_cons (ps_for PassesOwn.never rfl (show PI _ _ _ (iTup K _) from pi_tup (pe_ix (show IxR _ (rIxT K) from ix_tup) (pv 0) pe_int (fun _ _ => rfl))) (show PG _ _ (gTup K 2 _) from pg_tup (by rfl) (pgs_cons (pg_name (i := 2) sc_roads_from.nd rfl (Or.inl rfl)) (pgs_cons (pg_name (i := 3) sc_roads_from.nd rfl (Or.inl rfl)) pgs_nil))) (pss_one (ps_expr (pe_bm PySem.F.plainAttrs_list PySem.F.slot_list_append PySem.F.type_list_append mt_append (pe_ix (show IxR _ (rIxL K) from ix_list) (pv 1) (pv 2) (fun _ _ => rfl)) (pa_cons (pv 3) pa_nil)))))
      (pss_one (ps_ret (pv 1))))), ?_⟩
    refine ⟨_, rfl, _, _, _, _, rfl, rfl, hC.top, rfl, _, rfl, by omega, by omega, fun d hd => ?_⟩
    refine lc_range (lo := 0) (n := C.n) (fun i H' => ∃ ls : List Addr, ls.length = i ∧ ls.Nodup ∧ Same H H' ∧ (∀ l ∈ ls, H l = none ∧ l ≠ d ∧ H' l = some (.lst [])) ∧ H' d = some (.lst (ls.map V.ref))) ⟨[], rfl, List.nodup_nil, same_upd hd, (fun l z => nomatch z), upd_same⟩ ?_ ?_
    · rintro i H1 hi ⟨ls, el, nd, s1, all, hD⟩
      refine ⟨rfl, ?_⟩
      refine ⟨Nat.zero_le _, fun p hp => ?_⟩
      have npd : d ≠ p := ne_of_none hD hp
      have new : ∀ l ∈ ls, l ≠ p := fun l hl => ne_of_none (all l hl).2.2 hp
      refine ⟨_, Eq.trans (upd_ne npd) hD, by rw [List.length_map, el]; exact small1000 (by omega), ls ++ [p], by rw [List.length_append, el]; rfl, ?_, ?_, ?_, ?_⟩
      · rw [List.nodup_append]
        refine ⟨nd, by simp, fun x hx y hy => ?_⟩
        rw [List.mem_singleton.mp hy]
        exact new x hx
      · intro b o e
        have n1 : b ≠ d := ne_of_none e hd
        have n2 : b ≠ p := ne_of_none (s1 b o e) hp
        rw [upd_ne n1, upd_ne n2]
        exact s1 b o e
      · intro l hl
        rcases List.mem_append.mp hl with hl | hl
        · obtain ⟨a1, a2, a3⟩ := all l hl
          exact ⟨a1, a2, by rw [upd_ne a2, upd_ne (new l hl)]; exact a3⟩
        · rw [List.mem_singleton.mp hl]
          exact ⟨s1.free hp, npd.symm, by rw [upd_ne npd.symm, upd_same]⟩
      · rw [upd_same, List.map_append]
        rfl
    · rintro H1 ⟨ls, el, nd, s1, all, hD⟩
      have hC1 := hC.same s1
      refine ⟨_, rfl, _, _, _, _, rfl, rfl, hC1.top, rfl, r, rfl, ⟨_, hC1.row⟩, for_tup (xs := ts.map V.ref) (fun i σ H' => ∃ (v2 v3 v4 : Option V), σ = [some (.ref c), some (.ref d), v2, v3, v4] ∧ Same H H' ∧ H' d = some (.lst (ls.map V.ref)) ∧ ∀ a l, ls[a]? = some l → H' l = some (.lst ((succs (C.roads.take i) a).map vN)))
        ⟨_, _, _, rfl, s1, hD, fun a l e => (all l (List.mem_of_getElem? e)).2.2⟩ (fun i σ H' _ ⟨_, _, _, _, s2, _⟩ => Same.sqT s2 hC.row) ?_ ?_⟩
      · rintro i x σ H2 hx ⟨v2, v3, v4, rfl, s2, hD2, each⟩
        obtain ⟨t, ht, rfl⟩ := get_map hx
        obtain ⟨p, hp, pt⟩ := paired_getL hC.prs ht
        obtain ⟨b1, b2⟩ := ok.inR p (List.mem_of_getElem? hp)
        obtain ⟨l, hl⟩ : ∃ l, ls[p.1]? = some l := ⟨_, List.getElem?_eq_getElem (by rw [el]; exact b1)⟩
        have el2 := each p.1 l hl
        have hlm := all l (List.mem_of_getElem? hl)
        refine ⟨t, _, rfl, Same.sqT s2 pt, rfl, _, _, rfl, _, _, rfl, rfl, ?_⟩
        refine ⟨_, rfl, _, rfl, d, _, _, _, rfl, rfl, (.inl (.inl hD2)), atI_nat (v := V.ref l) (by rw [List.getElem?_map, hl]; rfl), .inl ⟨rfl, _, .inl (.inl el2)⟩, _, rfl, l, _, _, rfl, rfl, el2, ?_, ?_⟩
        · rw [List.length_map]
          have := succs_len (C.roads.take i) p.1
          have h2 : (C.roads.take i).length ≤ C.roads.length := by rw [List.length_take]; omega
          exact small1000 (by have := ok.many; omega)
        · refine ⟨_, _, _, rfl, fun b o e => ?_, by rw [upd_ne hlm.2.1.symm]; exact hD2, fun a m hm => ?_⟩
          · rw [upd_ne (ne_of_none e hlm.1)]
            exact s2 b o e
          · rw [take_more hp, succs_more]
            by_cases ha : p.1 = a
            · subst ha
              have : m = l := Option.some.inj (hm.symm.trans hl)
              subst this
              rw [upd_same, if_pos rfl, List.map_append]
              rfl
            · have nml : m ≠ l := by
                intro e
                subst e
                exact ha (nodup_inj nd hl hm)
              rw [upd_ne nml, if_neg ha]
              exact each a m hm
      · rintro σ H2 ⟨v2, v3, v4, rfl, s2, hD2, each⟩
        refine ⟨_, rfl, q d ls H2 s2 el ⟨hD2, fun a l e => ?_⟩⟩
        have := each a l e
        rwa [List.take_of_length_le (by rw [List.length_map]; exact Nat.le_of_eq (Paired.length hC.prs).symm)] at this
end
end Ft

set_option Elab.async false
set_option linter.all false
set_option maxRecDepth 100000
set_option maxHeartbeats 4000000
namespace Ft
open PySem PySem.Spec PyProof.Rows L2
section
variable {P : Program} {w : World} {K : PySem.W.Frag} {mg : Str → Option Value} {base : Heap} {t1 t2 : Tok}
theorem up_nodup {l : List Nat} (h : l.Pairwise (· < ·)) : l.Nodup := h.imp fun h e => by omega
theorem up_len {l : List Nat} {n : Nat} (h : l.Pairwise (· < ·)) (b : ∀ a ∈ l, a < n) : l.length ≤ n := by
  have := nat_nodup_len l (List.range n) (up_nodup h) fun x hx => List.mem_range.mpr (b x hx)
  rwa [List.length_range] at this
/-! ### unwished_of -/
def unw (C : Chart) : List Nat := (List.range C.n).filter fun a => !decide (a ∈ C.wished)
theorem range_more (n i : Nat) (h : i < n) : (List.range n).take (i + 1) = (List.range n).take i ++ [i] := by
  refine take_more ?_
  rw [List.getElem?_range h]
theorem range_take_mem {n i a : Nat} (h : i ≤ n) : a ∈ (List.range n).take i ↔ a < i := by
  have e : (List.range n).take i = List.range i := by
    rw [List.take_range, Nat.min_eq_left h]
  rw [e, List.mem_range]
def sp_unwished_of (K : PySem.W.Frag) : Sp := fun vs H Q _ => ∃ (c : Addr) (C : Chart), vs = [.ref c] ∧ IsChart K H c C ∧ C.Ok ∧ ∀ q H', Same H H' → H q = none → H' q = some (.lst ((unw C).map vN)) → Q (.ref q) H'
theorem cal_unwished_of (T : Txt mg) (D : Def K mg "unwished_of" s_unwished_of) : Cal P w K mg base 2 "unwished_of" (sp_unwished_of K) := by
  refine cal_of D sc_unwished_of (fun _ _ _ _ _ _ us hl => match us, hl with | [_], _ => rfl) (fun vs H Q E h => ?_) (fun f cdv A outer s H vs Q E hr h => ?_)
  · obtain ⟨c, C, rfl, _⟩ := h
    rfl
  · obtain ⟨c, C, rfl, ⟨r, wd, ts, hC⟩, ok, q⟩ := h
    have n60 := ok.n60
    refine ⟨_, (pss_cons (ps_set (i := 1) sc_unwished_of.nd rfl (Or.inr rfl) (pe_callTy (show CallR _ _ (rSetI K w) from cr_setI rfl) (by rfl) T.set (by decide +kernel) (pa_cons (pe_ix (show IxR _ (rIxT K) from ix_tup) (pv 0) pe_int (fun _ _ => rfl)) pa_nil)))
      (pss_one (ps_ret (pe_lc (own := [("place", 2)]) rfl sc_unwished_of.nd (pi_range1 (by rfl) T.range (pa_cons (pe_ix (show IxR _ (rIxT K) from ix_tup) (pv 0) pe_int (fun _ _ => rfl)) pa_nil)) (blkOk_by (N := ["chart", "wished", "place"]) (sc := L2.defScope s_unwished_of) (by decide +kernel)) (fun _ _ _ _ _ => (pg_name (i := 2) sc_unwished_of.nd rfl (Or.inl rfl))) (fun _ _ _ _ _ => pts_one (pt_cmpR (show OpR _ _ (rSNotIn w) from or_snotin) (pv 2) (pv 1) (by rfl))) (fun _ _ _ _ _ => (pv 2)))))), ?_⟩
    have lenW : (iN C.wished).length ≤ 1000 := by
      rw [iN_length]
      have := up_len ok.upW ok.inW
      omega
    refine ⟨_, rfl, _, _, _, _, rfl, rfl, hC.top, rfl, wd, iN C.wished, rfl, .inr (by rw [← vN_map]; exact hC.wis), lenW, fun p n0 hp hn0 => ?_⟩
    have s1 : Same H (upd H p (SetO w p (fun j => decide (j ∈ iN C.wished)) n0)) := same_upd hp
    have hC1 := hC.same s1
    refine ⟨_, rfl, _, _, _, _, rfl, rfl, hC1.top, rfl, _, rfl, by omega, by omega, fun d hd => ?_⟩
    have npd : p ≠ d := ne_of_none upd_same hd
    refine lc_range (lo := 0) (n := C.n) (fun i H' => Same H H' ∧ H' p = some (SetO w p (fun j => decide (j ∈ iN C.wished)) n0) ∧ H' d = some (.lst ((((List.range C.n).take i).filter fun a => !decide (a ∈ C.wished)).map vN)))
      ⟨s1.trans (same_upd hd), by rw [upd_ne npd]; exact upd_same, upd_same⟩ ?_ ?_
    · rintro i H1 hi ⟨s2, hp2, hd2⟩
      refine ⟨rfl, ?_⟩
      refine ⟨_, rfl, _, rfl, _, _, _, _, rfl, rfl, hp2, _, rfl, ?_⟩
      have e0 : (0 : Int) + (i : Nat) = (i : Nat) := by omega
      have e1 : decide ((0 : Int) + (i : Nat) ∈ iN C.wished) = decide (i ∈ C.wished) := by
        rw [e0]
        exact decide_eq_decide.mpr iN_mem
      rw [e1, range_more _ _ hi, List.filter_append]
      by_cases hw : i ∈ C.wished
      · rw [decide_eq_true hw]
        refine iteF ⟨s2, hp2, ?_⟩
        rw [hd2]
        simp [hw]
      · rw [decide_eq_false hw]
        refine iteT ?_
        refine ⟨_, rfl, _, hd2, ?_, ?_, ?_, ?_⟩
        · rw [List.length_map]
          have h1 := List.length_filter_le (fun a => !decide (a ∈ C.wished)) ((List.range C.n).take i)
          have h2 : ((List.range C.n).take i).length ≤ i := by rw [List.length_take]; omega
          exact small1000 (by omega)
        · intro b o e
          rw [upd_ne (ne_of_none e (s1.free hd))]
          exact s2 b o e
        · rw [upd_ne npd]
          exact hp2
        · rw [upd_same, List.map_append, e0]
          simp [hw]
          rfl
    · rintro H1 ⟨s2, hp2, hd2⟩
      rw [List.take_of_length_le (by rw [List.length_range]; exact Nat.le_refl _)] at hd2
      exact q d H1 s2 (s1.free hd) hd2
end
end Ft

set_option Elab.async false
set_option linter.all false
set_option maxRecDepth 100000
set_option maxHeartbeats 4000000
namespace Ft
open PySem PySem.Spec PyProof.Rows L2
/-- a dict of places, each with True -/
def keysOf (F : List Nat) : List (Key × V) := F.map fun (n : Nat) => ((Sum.inl (n : Int) : Key), V.bl true)
theorem keysOf_val : ∀ (F : List Nat) (x : Nat), valV (keysOf F) (Sum.inl (x : Int) : Key) = if x ∈ F then some (.bl true) else none
  | [], x => by simp [keysOf, valV]
  | a :: F, x => by
    have ih := keysOf_val F x
    unfold valV keysOf at ih ⊢
    rw [List.map_cons, List.find?_cons]
    by_cases h : a = x
    · subst h
      simp
    · have e : decide (((Sum.inl (a : Int) : Key)) = Sum.inl (x : Int)) = false := by
        refine decide_eq_false fun q => h ?_
        have := Sum.inl.inj q
        omega
      have hx : x ≠ a := fun q => h q.symm
      simp only [e, List.mem_cons, hx, false_or]
      exact ih
theorem keysOf_put (F : List Nat) (x : Nat) (h : x ∉ F) : putK (keysOf F) (Sum.inl (x : Int) : Key) (.bl true) = keysOf (F ++ [x]) := by
  rw [putK_new _ (by rw [keysOf_val, if_neg h])]
  unfold keysOf
  rw [List.map_append]
  rfl
theorem keysOf_len (F : List Nat) : (keysOf F).length = F.length := List.length_map ..
theorem keysOf_keys (F : List Nat) : (keysOf F).map (·.1) = (iN F).map Sum.inl := by
  unfold keysOf iN
  rw [List.map_map, List.map_map]
  rfl
theorem nodup_lt {F : List Nat} {n : Nat} (nd : F.Nodup) (b : ∀ x ∈ F, x < n) : F.length ≤ n := by
  have := nat_nodup_len F (List.range n) nd fun x hx => List.mem_range.mpr (b x hx)
  rwa [List.length_range] at this
/-- what holds between two turns of the search -/
structure Hunt (C : Chart) (S F W : List Nat) : Prop where
  nd : F.Nodup
  lt : ∀ b ∈ F, b < C.n
  fair : ∀ b ∈ F, ∃ a ∈ S, Reach C.roads C.wished a b
  wait : ∀ x ∈ W, x ∈ S ∨ (x ∈ F ∧ x ∉ C.wished)
structure Done (C : Chart) (S F W : List Nat) (off : Nat → Prop) : Prop where
  ok : ∀ x, (x ∈ S ∨ (x ∈ F ∧ x ∉ C.wished)) → x ∈ W ∨ off x ∨ ∀ b, (x, b) ∈ C.roads → b ∈ F
theorem hunt_end {C : Chart} {S F : List Nat} (h : Hunt C S F []) (d : Done C S F [] fun _ => False) : ∀ x, x ∈ F ↔ x < C.n ∧ ∃ a ∈ S, Reach C.roads C.wished a x := by
  intro x
  constructor
  · intro m
    exact ⟨h.lt x m, h.fair x m⟩
  · rintro ⟨_, a, ha, r⟩
    have all : ∀ y, (y ∈ S ∨ (y ∈ F ∧ y ∉ C.wished)) → ∀ b, (y, b) ∈ C.roads → b ∈ F := by
      intro y hy
      rcases d.ok y hy with z | z | z
      · exact absurd z List.not_mem_nil
      · exact z.elim
      · exact z
    exact r.within (S := (· ∈ F)) (fun y hy => all a (.inl ha) y hy) fun y z hy hw hz => all y (.inr ⟨hy, hw⟩) z hz
section
variable {P : Program} {w : World} {K : PySem.W.Frag} {mg : Str → Option Value} {base : Heap} {t1 t2 : Tok}
/-! ### reached -/
def hungry (n : Nat) (d wt : Addr) (H : Hp) : Nat := match H d, H wt with
  | some (.dK kvs), some (.lst ws) => 2 * (n - kvs.length) + ws.length
  | _, _ => 0
theorem hungry_is {n : Nat} {d wt : Addr} {H : Hp} {kvs : List (Key × V)} {ws : List V} (h1 : H d = some (.dK kvs)) (h2 : H wt = some (.lst ws)) : hungry n d wt H = 2 * (n - kvs.length) + ws.length := by
  unfold hungry
  rw [h1, h2]
def sp_reached (K : PySem.W.Frag) : Sp := fun vs H Q _ => ∃ (c st : Addr) (C : Chart) (S : List Nat), vs = [.ref c, .ref st] ∧ IsChart K H c C ∧ C.Ok ∧ SqT K H st (S.map vN) ∧ (∀ a ∈ S, a < C.n) ∧ S.length ≤ 60 ∧
  ∀ q H', Same H H' → H q = none → H' q = some (.lst ((met C.n C.roads C.wished S).map vN)) → Q (.ref q) H'
end
end Ft

set_option Elab.async false
set_option linter.all false
set_option maxRecDepth 100000
set_option maxHeartbeats 4000000
namespace Ft
open PySem PySem.Spec PyProof.Rows L2
/-- the unwished places that some place of S comes to -/
noncomputable def metU (C : Chart) (S : List Nat) : List Nat := those C.n fun b => b ∉ C.wished ∧ ∃ a ∈ S, Reach C.roads C.wished a b
/-- the piece of a place -/
noncomputable def pieceOf (C : Chart) (a : Nat) : List Nat := if a ∈ C.wished then [a] else those C.n fun b => b ∉ C.wished ∧ (b = a ∨ (Reach C.roads C.wished a b ∧ Reach C.roads C.wished b a))
theorem unw_mem {C : Chart} {a : Nat} : a ∈ unw C ↔ a < C.n ∧ a ∉ C.wished := by
  unfold unw
  simp [List.mem_filter]
theorem unw_up (C : Chart) : (unw C).Pairwise (· < ·) := (range_up C.n).filter _
theorem unw_len (C : Chart) : (unw C).length ≤ C.n := by
  have := List.length_filter_le (fun a => !decide (a ∈ C.wished)) (List.range C.n)
  rwa [List.length_range] at this
theorem those_len (n : Nat) (P : Nat → Prop) : (those n P).length ≤ n := up_len (those_up n P) fun a h => (those_mem.mp h).1
/-- a dict of places, each with an object -/
def dictOf : List Nat → List Addr → List (Key × V)
  | a :: l, d :: ds => (Sum.inl (a : Int), .ref d) :: dictOf l ds
  | _, _ => []
theorem dictOf_more : ∀ (l : List Nat) (ds : List Addr) (a : Nat) (d : Addr), l.length = ds.length → dictOf (l ++ [a]) (ds ++ [d]) = dictOf l ds ++ [(Sum.inl (a : Int), .ref d)]
  | [], [], _, _, _ => rfl
  | x :: l, y :: ds, a, d, h => by
    have := dictOf_more l ds a d (Nat.succ.inj h)
    show _ :: dictOf (l ++ [a]) (ds ++ [d]) = _ :: (dictOf l ds ++ _)
    rw [this]
  | [], _ :: _, _, _, h => nomatch h
  | _ :: _, [], _, _, h => nomatch h
theorem dictOf_len : ∀ (l : List Nat) (ds : List Addr), l.length = ds.length → (dictOf l ds).length = l.length
  | [], [], _ => rfl
  | x :: l, y :: ds, h => congrArg (· + 1) (dictOf_len l ds (Nat.succ.inj h))
  | [], _ :: _, h => nomatch h
  | _ :: _, [], h => nomatch h
theorem dictOf_none : ∀ (l : List Nat) (ds : List Addr) (x : Nat), x ∉ l → valV (dictOf l ds) (Sum.inl (x : Int) : Key) = none
  | [], _, _, _ => by simp [dictOf, valV]
  | _ :: _, [], _, _ => by simp [dictOf, valV]
  | a :: l, d :: ds, x, h => by
    have ih := dictOf_none l ds x fun m => h (List.mem_cons_of_mem _ m)
    unfold valV at ih ⊢
    show ((((Sum.inl (a : Int) : Key), V.ref d) :: dictOf l ds).find? fun kv => decide (kv.1 = Sum.inl (x : Int))).map (·.2) = none
    rw [List.find?_cons]
    have e : decide (((Sum.inl (a : Int) : Key)) = Sum.inl (x : Int)) = false := by
      refine decide_eq_false fun q => h ?_
      have := Sum.inl.inj q
      have : a = x := by omega
      rw [this]
      exact List.mem_cons_self
    simp only [e]
    exact ih
theorem dictOf_val : ∀ (l : List Nat) (ds : List Addr) (i x : Nat) (d : Addr), l.Nodup → l[i]? = some x → ds[i]? = some d → valV (dictOf l ds) (Sum.inl (x : Int) : Key) = some (.ref d)
  | [], _, _, _, _, _, h, _ => by simp at h
  | _ :: _, [], _, _, _, _, _, h => by simp at h
  | a :: l, e :: ds, 0, x, d, _, h1, h2 => by
    simp at h1 h2
    subst h1 h2
    unfold valV
    show ((((Sum.inl (a : Int) : Key), V.ref e) :: dictOf l ds).find? fun kv => decide (kv.1 = Sum.inl (a : Int))).map (·.2) = some (.ref e)
    rw [List.find?_cons]
    simp
  | a :: l, e :: ds, i + 1, x, d, nd, h1, h2 => by
    obtain ⟨n1, n2⟩ := List.nodup_cons.mp nd
    have ih := dictOf_val l ds i x d n2 (by simpa using h1) (by simpa using h2)
    have hx : x ∈ l := List.mem_of_getElem? (by simpa using h1 : l[i]? = some x)
    unfold valV at ih ⊢
    show ((((Sum.inl (a : Int) : Key), V.ref e) :: dictOf l ds).find? fun kv => decide (kv.1 = Sum.inl (x : Int))).map (·.2) = some (.ref d)
    rw [List.find?_cons]
    have e2 : decide (((Sum.inl (a : Int) : Key)) = Sum.inl (x : Int)) = false := by
      refine decide_eq_false fun q => n1 ?_
      have := Sum.inl.inj q
      have : a = x := by omega
      rw [this]
      exact hx
    simp only [e2]
    exact ih
section
variable {P : Program} {w : World} {K : PySem.W.Frag} {mg : Str → Option Value} {base : Heap} {t1 t2 : Tok}
/-! ### reached_unwished -/
def sp_reached_unwished (K : PySem.W.Frag) : Sp := fun vs H Q _ => ∃ (c st : Addr) (C : Chart) (S : List Nat), vs = [.ref c, .ref st] ∧ IsChart K H c C ∧ C.Ok ∧ SqT K H st (S.map vN) ∧ (∀ a ∈ S, a < C.n) ∧ S.length ≤ 60 ∧
  ∀ q H', Same H H' → H q = none → H' q = some (.lst ((metU C S).map vN)) → Q (.ref q) H'
end
end Ft

set_option Elab.async false
set_option linter.all false
set_option maxRecDepth 100000
set_option maxHeartbeats 8000000
namespace Ft
open PySem PySem.Spec PyProof.Rows L2
/-! ### a dict of places, each with a number -/
def lvOf (L : List (Nat × Nat)) : List (Key × V) := L.map fun p => ((Sum.inl (p.1 : Int) : Key), vN p.2)
theorem lvOf_none : ∀ (L : List (Nat × Nat)) (x : Nat), x ∉ L.map (·.1) → valV (lvOf L) (Sum.inl (x : Int) : Key) = none
  | [], _, _ => by simp [lvOf, valV]
  | p :: L, x, h => by
    have ih := lvOf_none L x fun m => h (List.mem_cons_of_mem _ m)
    unfold valV lvOf at ih ⊢
    rw [List.map_cons, List.find?_cons]
    have e : decide (((Sum.inl (p.1 : Int) : Key)) = Sum.inl (x : Int)) = false := by
      refine decide_eq_false fun q => h ?_
      have := Sum.inl.inj q
      have : p.1 = x := by omega
      rw [List.map_cons, ← this]
      exact List.mem_cons_self
    simp only [e]
    exact ih
theorem lvOf_some : ∀ (L : List (Nat × Nat)) (x k : Nat), (L.map (·.1)).Nodup → (x, k) ∈ L → valV (lvOf L) (Sum.inl (x : Int) : Key) = some (vN k)
  | [], _, _, _, h => nomatch h
  | p :: L, x, k, nd, h => by
    rw [List.map_cons] at nd
    obtain ⟨n1, n2⟩ := List.nodup_cons.mp nd
    unfold valV lvOf
    rw [List.map_cons, List.find?_cons]
    rcases List.mem_cons.mp h with e | h
    · rw [← e]
      simp
    · have ih := lvOf_some L x k n2 h
      unfold valV lvOf at ih
      have e : decide (((Sum.inl (p.1 : Int) : Key)) = Sum.inl (x : Int)) = false := by
        refine decide_eq_false fun q => n1 ?_
        have := Sum.inl.inj q
        have : p.1 = x := by omega
        rw [this]
        exact key_mem.mpr ⟨k, h⟩
      simp only [e]
      exact ih
theorem lvOf_put (L : List (Nat × Nat)) (x k : Nat) (h : x ∉ L.map (·.1)) : putK (lvOf L) (Sum.inl (x : Int) : Key) (vN k) = lvOf (L ++ [(x, k)]) := by
  rw [putK_new _ (lvOf_none L x h)]
  unfold lvOf
  rw [List.map_append]
  rfl
theorem lvOf_len (L : List (Nat × Nat)) : (lvOf L).length = L.length := List.length_map ..
/-- the keys of a dict are these places -/
def Keyed (kvs : List (Key × V)) (A : List Nat) : Prop := kvs.map (·.1) = A.map fun (n : Nat) => (Sum.inl (n : Int) : Key)
theorem keyed_val : ∀ {kvs : List (Key × V)} {A : List Nat}, Keyed kvs A → ∀ x : Nat, (valV kvs (Sum.inl (x : Int) : Key)).isSome = decide (x ∈ A)
  | [], [], _, x => by simp [valV]
  | [], _ :: _, h, _ => by simp [Keyed] at h
  | _ :: _, [], h, _ => by simp [Keyed] at h
  | p :: kvs, a :: A, h, x => by
    unfold Keyed at h
    rw [List.map_cons, List.map_cons] at h
    injection h with h1 h2
    have ih := keyed_val (kvs := kvs) (A := A) h2 x
    unfold valV at ih ⊢
    rw [List.find?_cons, h1]
    by_cases e : a = x
    · subst e
      simp
    · have e1 : decide (((Sum.inl (a : Int) : Key)) = Sum.inl (x : Int)) = false := by
        refine decide_eq_false fun q => e ?_
        have := Sum.inl.inj q
        omega
      have hx : x ≠ a := fun q => e q.symm
      simp only [e1, List.mem_cons, hx, false_or]
      exact ih
theorem keyed_keysOf (A : List Nat) : Keyed (keysOf A) A := by
  unfold Keyed keysOf
  rw [List.map_map]
  rfl
theorem keyed_zeros (W : List Nat) : Keyed (lvOf (W.map fun b => (b, 0))) W := by
  unfold Keyed lvOf
  rw [List.map_map, List.map_map]
  rfl
theorem keysOf_again : ∀ (B : List Nat) (x : Nat), x ∈ B → putK (keysOf B) (Sum.inl (x : Int) : Key) (.bl true) = keysOf B := by
  intro B x h
  unfold putK
  rw [if_pos (by
    rw [List.any_eq_true]
    exact ⟨(Sum.inl (x : Int), .bl true), List.mem_map.mpr ⟨x, h, rfl⟩, by simp⟩)]
  conv => rhs; rw [← List.map_id (keysOf B)]
  refine List.map_congr_left fun kv hkv => ?_
  unfold keysOf at hkv
  obtain ⟨y, _, rfl⟩ := List.mem_map.mp hkv
  by_cases e : ((Sum.inl (y : Int) : Key)) = Sum.inl (x : Int)
  · rw [if_pos e]
    rfl
  · rw [if_neg e]
    rfl
/-- how much of the search is left -/
def restOf (n : Nat) (d : Addr) (σ : L2.St) (H : Hp) : Nat := match σ[5]?, H d with
  | some (some (V.ref la)), some (HO.dK kvs) => (n - kvs.length) + (match H la with
    | some (HO.dK (_ :: _)) => 1
    | _ => 0)
  | _, _ => 0
theorem restOf_is {n : Nat} {d la : Addr} {σ : L2.St} {H : Hp} {ks kvs : List (Key × V)} (h0 : σ[5]? = some (some (V.ref la))) (h1 : H d = some (.dK ks)) (h2 : H la = some (.dK kvs)) : restOf n d σ H = (n - ks.length) + (if kvs = [] then 0 else 1) := by
  unfold restOf
  simp only [h0, h1, h2]
  cases kvs with
  | nil => simp
  | cons a b => simp
section
variable {P : Program} {w : World} {K : PySem.W.Frag} {mg : Str → Option Value} {base : Heap} {t1 t2 : Tok}
/-! ### roads_left -/
def sp_roads_left (K : PySem.W.Frag) : Sp := fun vs H Q _ => ∃ (c tr : Addr) (C : Chart) (U : List Nat), vs = [.ref c, .ref tr] ∧ IsChart K H c C ∧ C.Ok ∧ SqT K H tr (U.map vN) ∧ U.length ≤ 1000 ∧
  ∀ d L H', Same H H' → H d = none → H' d = some (.dK (lvOf L)) → Left C.n C.roads C.wished U L → Q (.ref d) H'
theorem cal_roads_left (T : Txt mg) (D : Def K mg "roads_left" s_roads_left) (c_unwished_of : Cal P w K mg base 2 "unwished_of" (sp_unwished_of K)) : Cal P w K mg base 3 "roads_left" (sp_roads_left K) := by
  refine cal_of D sc_roads_left (fun _ _ _ _ _ _ us hl => match us, hl with | [_, _], _ => rfl) (fun vs H Q E h => ?_) (fun f cdv A outer s H vs Q E hr h => ?_)
  · obtain ⟨c, tr, C, U, rfl, _⟩ := h
    rfl
  · obtain ⟨c, tr, C, U, rfl, ⟨r, wd, ts, hC⟩, ok, hT, few, q⟩ := h
    have n60 := ok.n60
    have hu := hu_of hr
    have wle := up_len ok.upW ok.inW
    refine ⟨_, (pss_cons (ps_set (i := 2) sc_roads_left.nd rfl (Or.inr rfl) (pe_callTy (show CallR _ _ (rSetI K w) from cr_setI rfl) (by rfl) T.set (by decide +kernel) (pa_cons (pv 1) pa_nil)))
      (pss_cons (ps_set (i := 3) sc_roads_left.nd rfl (Or.inr rfl) (pe_dc (own := [("place", 7)]) rfl sc_roads_left.nd (show PI _ _ _ (iTup K _) from pi_tup (pe_ix (show IxR _ (rIxT K) from ix_tup) (pv 0) pe_int (fun _ _ => rfl))) (blkOk_by (N := ["chart", "traps", "stopped", "left", "passed", "latest", "many", "place", "a", "b"]) (sc := L2.defScope s_roads_left) (by decide +kernel)) (fun _ _ _ _ _ => (pg_name (i := 7) sc_roads_left.nd rfl (Or.inl rfl))) (fun _ _ _ _ _ => pts_one (pt_cmpR (show OpR _ _ (rSNotIn w) from or_snotin) (pv 7) (pv 2) (by rfl))) (fun _ _ _ _ _ => (pv 7)) (fun _ _ _ _ _ => pe_int)))
      (pss_cons (ps_set (i := 4) sc_roads_left.nd rfl (Or.inr rfl) (pe_dc (own := [("place", 7)]) rfl sc_roads_left.nd (show PI _ _ _ (iList K _) from pi_list (pe_c c_unwished_of hr (by decide) (by rfl) (pa_cons (pv 0) pa_nil))) (blkOk_by (N := ["chart", "traps", "stopped", "left", "passed", "latest", "many", "place", "a", "b"]) (sc := L2.defScope s_roads_left) (by decide +kernel)) (fun _ _ _ _ _ => (pg_name (i := 7) sc_roads_left.nd rfl (Or.inl rfl))) (fun _ _ _ _ _ => pts_one (pt_cmpR (show OpR _ _ (rSNotIn w) from or_snotin) (pv 7) (pv 2) (by rfl))) (fun _ _ _ _ _ => (pv 7)) (fun _ _ _ _ _ => pe_bl)))
      (pss_cons (ps_set (i := 5) sc_roads_left.nd rfl (Or.inr rfl) (pe_callTy call_dictD (by rfl) T.dict (by decide +kernel) (pa_cons (pv 3) pa_nil)))
      (pss_cons (ps_set (i := 6) sc_roads_left.nd rfl (Or.inl rfl) pe_int)
      (pss_cons (ps_while PassesOwn.never (pt_truth (pv 5) (by intro _; rfl)) (pss_cons (ps_set (i := 6) sc_roads_left.nd rfl (Or.inl rfl) (pe_op op_add (pv 6) pe_int))
        (pss_cons (ps_set (i := 5) sc_roads_left.nd rfl (Or.inr rfl) (pe_dc (own := [("a", 8), ("b", 9)]) rfl sc_roads_left.nd (show PI _ _ _ (iTup K _) from pi_tup (pe_ix (show IxR _ (rIxT K) from ix_tup) (pv 0) pe_int (fun _ _ => rfl))) (blkOk_by (N := ["chart", "traps", "stopped", "left", "passed", "latest", "many", "place", "a", "b"]) (sc := L2.defScope s_roads_left) (by decide +kernel)) (fun _ _ _ _ _ => (show PG _ _ (gTup K 2 _) from pg_tup (by rfl) (pgs_cons (pg_name (i := 8) sc_roads_left.nd rfl (Or.inl rfl)) (pgs_cons (pg_name (i := 9) sc_roads_left.nd rfl (Or.inl rfl)) pgs_nil)))) (fun _ _ _ _ _ => pts_one (PW.pt (pw_and (pt_cmp (pc_din hu (pv 9) (pv 5))) (pw_and (pt_cmp (pc_din hu (pv 8) (pv 4))) (pw_and1 (pt_cmp (pc_dnotin hu (pv 8) (pv 3)))))))) (fun _ _ _ _ _ => (pv 8)) (fun _ _ _ _ _ => pe_bl)))
        (pss_one (ps_lock (ps_for PassesOwn.never rfl (pi_keys (pv 5)) (pg_name (i := 7) sc_roads_left.nd rfl (Or.inl rfl)) (pss_one (ps_dput hu (pv 3) (pv 7) (pv 6) rfl))))))))
      (pss_one (ps_ret (pv 3))))))))), ?_⟩
    refine ⟨_, rfl, tr, iN U, rfl, .inr (by rw [← vN_map]; exact hT), by rw [iN_length]; exact few, fun sp n0 hsp _ => ?_⟩
    have s1 : Same H (upd H sp (SetO w sp (fun j => decide (j ∈ iN U)) n0)) := same_upd hsp
    have hSp : (upd H sp (SetO w sp (fun j => decide (j ∈ iN U)) n0)) sp = some (SetO w sp (fun j => decide (j ∈ iN U)) n0) := upd_same
    generalize upd H sp (SetO w sp (fun j => decide (j ∈ iN U)) n0) = H1 at s1 hSp
    have hC1 := hC.same s1
    have inU : ∀ b : Nat, decide ((b : Int) ∈ iN U) = decide (b ∈ U) := fun b => decide_eq_decide.mpr iN_mem
    refine ⟨_, rfl, _, _, _, _, rfl, rfl, hC1.top, rfl, wd, rfl, ⟨_, hC1.wis⟩, fun d hd => ?_⟩
    have keep1 : ∀ {H' : Hp}, Kp [d] H1 H' → Same H1 H' := fun {H'} k b o e' => k b o (fun m => by rw [List.mem_singleton.mp m, hd] at e'; cases e') e'
    refine dc_tup (K := K) (xs := C.wished.map vN) (fun i H' => Kp [d] H1 H' ∧ H' d = some (.dK (lvOf (((C.wished.take i).filter fun b => !decide (b ∈ U)).map fun b => (b, 0)))))
      ⟨(fun b o x e' => by rw [upd_ne (ne_of_none e' hd)]; exact e'), upd_same⟩ (fun i H' _ ⟨k, _⟩ => Same.sqT (keep1 k) hC1.wis) ?_ ?_
    · rintro i x H2 hx ⟨k2, hD⟩
      obtain ⟨b, hb, rfl⟩ := get_map hx
      refine ⟨rfl, ?_⟩
      refine ⟨_, rfl, _, rfl, _, _, _, _, rfl, rfl, keep1 k2 _ _ hSp, _, rfl, ?_⟩
      rw [inU b]
      by_cases hw : b ∈ U
      · rw [decide_eq_true hw]
        refine iteF ⟨k2, ?_⟩
        rw [hD, take_more hb, List.filter_append]
        simp [hw]
      · rw [decide_eq_false hw]
        refine iteT ?_
        have fresh : b ∉ ((((C.wished.take i).filter fun b => !decide (b ∈ U)).map fun b => (b, 0)).map fun p : Nat × Nat => p.1) := by
          intro m
          obtain ⟨p, hp, e1⟩ := List.mem_map.mp m
          obtain ⟨b', hb', rfl⟩ := List.mem_map.mp hp
          have e1 : b' = b := e1
          subst e1
          obtain ⟨j', hj', e2⟩ := List.getElem_of_mem (List.mem_filter.mp hb').1
          rw [List.length_take] at hj'
          have e3 : C.wished[j']? = some b' := by
            rw [← e2, List.getElem_take]
            exact List.getElem?_eq_getElem _
          have := up_get ok.upW e3 hb (by omega)
          omega
        refine ⟨_, rfl, _, Sum.inl (b : Int), rfl, hD, ?_, ?_, ?_⟩
        · rw [lvOf_len, List.length_map]
          have h1 := List.length_filter_le (fun b => !decide (b ∈ U)) (C.wished.take i)
          have h2 : (C.wished.take i).length ≤ C.wished.length := by rw [List.length_take]; omega
          exact small1000 (by omega)
        · intro x o n e1
          rw [upd_ne (fun z => n (by rw [z]; simp))]
          exact k2 x o n e1
        · rw [upd_same]
          have e := lvOf_put _ b 0 fresh
          refine congrArg some (congrArg HO.dK (Eq.trans e ?_))
          rw [take_more hb, List.filter_append, List.map_append]
          simp [hw]
    rintro H2 ⟨k2, hD2⟩
    rw [List.take_of_length_le (by rw [List.length_map]; exact Nat.le_refl _)] at hD2
    have s2 := keep1 k2
    have hSp2 := s2 _ _ hSp
    have hC2 := hC1.same s2
    obtain ⟨W, eW⟩ : ∃ W, W = C.wished.filter fun b => !decide (b ∈ U) := ⟨_, rfl⟩
    rw [← eW] at hD2
    have ndW : W.Nodup := by
      rw [eW]
      exact (up_nodup ok.upW).filter _
    have memW : ∀ b, b ∈ W ↔ b ∈ C.wished ∧ b ∉ U := fun b => by rw [eW, List.mem_filter]; simp
    refine ⟨_, rfl, c, C, rfl, ⟨r, wd, ts, hC2⟩, ok, fun u H3 s3 hu0 hU3 => ?_⟩
    have hSp3 := s3 _ _ hSp2
    have hD3 := s3 _ _ hD2
    refine ⟨u, rfl, ⟨_, .inl (.inl hU3)⟩, fun e he => ?_⟩
    have nde : d ≠ e := ne_of_none hD3 he
    have keep3 : ∀ {H' : Hp}, Kp [e] H3 H' → Same H3 H' := fun {H'} k b o e' => k b o (fun m => by rw [List.mem_singleton.mp m, he] at e'; cases e') e'
    refine dc_it (walk_list (K := K) (a := u) (xs := (unw C).map vN)) (fun i H' => Kp [e] H3 H' ∧ H' e = some (.dK (keysOf (((unw C).take i).filter fun b => !decide (b ∈ U)))))
      ⟨(fun b o x e' => by rw [upd_ne (ne_of_none e' he)]; exact e'), by rw [upd_same]; rfl⟩ (fun i H' _ ⟨k, _⟩ => .inl (.inl (keep3 k _ _ hU3))) ?_ ?_
    · rintro i x Hx H4 hi ⟨k4, hE⟩ ⟨rfl, hx⟩
      obtain ⟨b, hb, rfl⟩ := get_map hx
      refine ⟨rfl, ?_⟩
      refine ⟨_, rfl, _, rfl, _, _, _, _, rfl, rfl, keep3 k4 _ _ hSp3, _, rfl, ?_⟩
      rw [inU b]
      by_cases hw : b ∈ U
      · rw [decide_eq_true hw]
        refine iteF ⟨k4, ?_⟩
        rw [hE, take_more hb, List.filter_append]
        simp [hw]
      · rw [decide_eq_false hw]
        refine iteT ?_
        have fresh : b ∉ ((unw C).take i).filter fun b => !decide (b ∈ U) := by
          intro m
          obtain ⟨j', hj', e2⟩ := List.getElem_of_mem (List.mem_filter.mp m).1
          rw [List.length_take] at hj'
          have e3 : (unw C)[j']? = some b := by
            rw [← e2, List.getElem_take]
            exact List.getElem?_eq_getElem _
          have := up_get (unw_up C) e3 hb (by omega)
          omega
        refine ⟨_, rfl, _, Sum.inl (b : Int), rfl, hE, ?_, ?_, ?_⟩
        · rw [keysOf_len]
          have h1 := List.length_filter_le (fun b => !decide (b ∈ U)) ((unw C).take i)
          have h2 : ((unw C).take i).length ≤ (unw C).length := by rw [List.length_take]; omega
          have h3 : (unw C).length ≤ C.n := up_len (unw_up C) fun a h => (by
            unfold unw at h
            exact List.mem_range.mp (List.mem_filter.mp h).1)
          exact small1000 (by omega)
        · intro x o n e1
          rw [upd_ne (fun z => n (by rw [z]; simp))]
          exact k4 x o n e1
        · rw [upd_same, keysOf_put _ _ fresh, take_more hb, List.filter_append]
          simp [hw]
    rintro H4 ⟨k4, hE4⟩
    rw [List.take_of_length_le (by rw [List.length_map]; exact Nat.le_refl _)] at hE4
    have s4 := keep3 k4
    obtain ⟨Ps, ePs⟩ : ∃ Ps, Ps = (unw C).filter fun b => !decide (b ∈ U) := ⟨_, rfl⟩
    rw [← ePs] at hE4
    have memP : ∀ b, b < C.n → (b ∈ Ps ↔ b ∉ C.wished ∧ b ∉ U) := fun b hb => by
      rw [ePs, List.mem_filter]
      unfold unw
      simp [List.mem_filter, List.mem_range, hb]
    have hD4 := s4 _ _ hD3
    refine ⟨_, rfl, d, _, rfl, .inl hD4, fun la0 hla0 => ?_⟩
    have s5 : Same H4 (upd H4 la0 (.dK (lvOf (W.map fun b => (b, 0))))) := same_upd hla0
    have hLa5 : (upd H4 la0 (.dK (lvOf (W.map fun b => (b, 0))))) la0 = some (.dK (lvOf (W.map fun b => (b, 0)))) := upd_same
    have nla : la0 ≠ d := (ne_of_none hD4 hla0).symm
    have hD5 := s5 _ _ hD4
    have hE5 := s5 _ _ hE4
    have s25 := (s3.trans s4).trans s5
    have hC5 := hC2.same s25
    have hd0 : H d = none := s1.free hd
    have s15 : Same H (upd H4 la0 (.dK (lvOf (W.map fun b => (b, 0))))) := s1.trans (s2.trans s25)
    generalize upd H4 la0 (.dK (lvOf (W.map fun b => (b, 0)))) = H5 at s5 hLa5 hD5 hE5 s25 hC5 s15
    have hl5 : Lists [d] H5 := fun b hb => by
      rw [List.mem_singleton.mp hb]
      exact ⟨_, hD5, (fun _ z => nomatch z), (fun _ _ z => nomatch z)⟩
    refine at_name ?_
    dsimp only
    refine at_seq ?_
    show gName 6 (V.int 0) _ _ _
    refine at_name ?_
    dsimp only
    refine at_seq ?_
    refine while_by (fun σ H' => ∃ (la : Addr) (m : Nat) (L : List (Nat × Nat)) (A : List Nat) (kvs : List (Key × V)) (v7 v8 v9 : Option V), σ = [some (.ref c), some (.ref tr), some (.ref sp), some (.ref d), some (.ref e), some (.ref la), some (vN m), v7, v8, v9] ∧ Kp [d] H5 H' ∧ H' d = some (.dK (lvOf L)) ∧ H' la = some (.dK kvs) ∧ Keyed kvs A ∧ Lefting C.n C.roads C.wished U m L A) (restOf C.n d) ?_ ?_ ?_
    · exact ⟨la0, 0, _, W, _, _, _, _, rfl, Kp.refl _ _, hD5, hLa5, keyed_zeros W, Lefting.start ok.inW ndW memW⟩
    · rintro σ H6 ⟨la, m, L, A, kvs, v7, v8, v9, rfl, k6, hD, hLa, key, lf⟩
      have off : ∀ b o, H5 b = some o → b ≠ d → H6 b = some o := fun b o e n => k6 b o (by simp [n]) e
      have hC6 : ChartAt K H6 c C r wd ts := hC5.keep k6 hl5
      have hE6 : H6 e = some (.dK (keysOf Ps)) := off _ _ hE5 nde.symm
      have Ll := lf.len
      have lenk : kvs.length = A.length := by
        have := congrArg List.length key
        rwa [List.length_map, List.length_map] at this
      refine ⟨_, rfl, _, .inr (.inr ⟨_, hLa, rfl⟩), ?_⟩
      by_cases he0 : A = []
      · have ek : kvs = [] := List.length_eq_zero_iff.mp (by rw [lenk, he0]; rfl)
        rw [ek]
        refine iteF ?_
        rw [he0] at lf
        refine ⟨_, rfl, q d L H6 (fun b o eb => off _ _ (s15 _ _ eb) (fun z => by rw [z, hd0] at eb; cases eb)) hd0 hD lf.ends⟩
      · obtain ⟨kv0, kvr, ek⟩ : ∃ kv0 kvr, kvs = kv0 :: kvr := by
          cases kvs with
          | nil => exact absurd (List.length_eq_zero_iff.mp lenk.symm) he0
          | cons a b => exact ⟨a, b, rfl⟩
        have mu0 : restOf C.n d [some (.ref c), some (.ref tr), some (.ref sp), some (.ref d), some (.ref e), some (.ref la), some (vN m), v7, v8, v9] H6 = (C.n - L.length) + 1 := by
          rw [restOf_is rfl hD hLa, lvOf_len, ek]
          simp
        have full : (!kvs.isEmpty) = true := by rw [ek]; rfl
        rw [full]
        refine iteT ?_
        refine ⟨_, rfl, _, _, rfl, rfl, ?_⟩
        refine ⟨_, rfl, _, _, _, _, rfl, rfl, hC6.top, rfl, r, rfl, ⟨_, hC6.row⟩, fun g hg => ?_⟩
        have keep6 : ∀ {H' : Hp}, Kp [g] H6 H' → Same H6 H' := fun {H'} k b o e' => k b o (fun m => by rw [List.mem_singleton.mp m, hg] at e'; cases e') e'
        refine dc_tup (K := K) (xs := ts.map V.ref) (fun i H' => ∃ B : List Nat, Kp [g] H6 H' ∧ H' g = some (.dK (keysOf B)) ∧ B.Nodup ∧ (∀ a, a ∈ B ↔ (∃ b ∈ A, (a, b) ∈ C.roads.take i) ∧ a ∉ C.wished ∧ a ∉ U ∧ a ∉ L.map (·.1)) ∧ B.length ≤ i)
          ⟨[], (fun b o x e' => by rw [upd_ne (ne_of_none e' hg)]; exact e'), by rw [upd_same]; rfl, List.nodup_nil, (fun a => by simp), Nat.le_refl _⟩ (fun i H' _ ⟨_, k, _⟩ => Same.sqT (keep6 k) hC6.row) ?_ ?_
        · rintro i x H7 hx ⟨B, k7, hG, ndB, memB, lB⟩
          obtain ⟨t, ht, rfl⟩ := get_map hx
          obtain ⟨q0, hq0, pt⟩ := paired_getL hC6.prs ht
          have i240 : i < C.roads.length := (List.getElem?_eq_some_iff.mp hq0).1
          have m240 := ok.many
          have inq := ok.inR q0 (List.mem_of_getElem? hq0)
          have no : ¬ (q0.2 ∈ A ∧ q0.1 ∉ C.wished ∧ q0.1 ∉ U ∧ q0.1 ∉ L.map (·.1)) → ∃ B : List Nat, Kp [g] H6 H7 ∧ H7 g = some (.dK (keysOf B)) ∧ B.Nodup ∧ (∀ a, a ∈ B ↔ (∃ b ∈ A, (a, b) ∈ C.roads.take (i + 1)) ∧ a ∉ C.wished ∧ a ∉ U ∧ a ∉ L.map (·.1)) ∧ B.length ≤ i + 1 := by
            intro h
            refine ⟨B, k7, hG, ndB, fun a => ?_, by omega⟩
            rw [memB a, take_more hq0]
            constructor
            · rintro ⟨⟨b, hb, hr'⟩, h2⟩
              exact ⟨⟨b, hb, List.mem_append_left _ hr'⟩, h2⟩
            · rintro ⟨⟨b, hb, hr'⟩, h2⟩
              rcases List.mem_append.mp hr' with hr' | hr'
              · exact ⟨⟨b, hb, hr'⟩, h2⟩
              · have e1 := List.mem_singleton.mp hr'
                refine absurd ?_ h
                rw [← e1]
                exact ⟨hb, h2⟩
          have gA : DGet H7 la (vN q0.2) (valV kvs (Sum.inl (q0.2 : Int) : Key)) := DGet.k (k := Sum.inl (q0.2 : Int)) (keep6 k7 _ _ hLa)
          have gP : DGet H7 e (vN q0.1) (valV (keysOf Ps) (Sum.inl (q0.1 : Int) : Key)) := DGet.k (k := Sum.inl (q0.1 : Int)) (keep6 k7 _ _ hE6)
          have gL : DGet H7 d (vN q0.1) (valV (lvOf L) (Sum.inl (q0.1 : Int) : Key)) := DGet.k (k := Sum.inl (q0.1 : Int)) (keep6 k7 _ _ hD)
          refine ⟨t, _, rfl, Same.sqT (keep6 k7) pt, rfl, _, _, rfl, _, _, rfl, rfl, rfl, ?_⟩
          refine ⟨_, rfl, _, rfl, la, _, rfl, gA, _, rfl, ?_⟩
          rw [keyed_val key]
          by_cases hA : q0.2 ∈ A
          · rw [decide_eq_true hA]
            refine iteT ?_
            refine ⟨_, rfl, _, rfl, e, _, rfl, gP, _, rfl, ?_⟩
            rw [keyed_val (keyed_keysOf Ps)]
            by_cases hP : q0.1 ∈ Ps
            · rw [decide_eq_true hP]
              refine iteT ?_
              refine ⟨_, rfl, _, rfl, d, _, rfl, gL, _, rfl, ?_⟩
              by_cases hL : q0.1 ∈ L.map (·.1)
              · obtain ⟨k0, hk0⟩ := key_mem.mp hL
                rw [lvOf_some L _ k0 lf.nd hk0]
                exact iteF (no fun h => h.2.2.2 hL)
              · rw [lvOf_none L _ hL]
                refine iteT ?_
                have hPw := (memP _ inq.1).mp hP
                by_cases hB : q0.1 ∈ B
                · refine ⟨_, rfl, _, Sum.inl (q0.1 : Int), rfl, hG, by rw [keysOf_len]; exact small1000 (by omega), B, ?_, by rw [upd_same, keysOf_again B _ hB], ndB, fun a => ?_, by omega⟩
                  · intro b o nb eb
                    rw [upd_ne (fun z => nb (by rw [z]; simp))]
                    exact k7 b o nb eb
                  · rw [memB a, take_more hq0]
                    constructor
                    · rintro ⟨⟨b, hb, hr'⟩, h2⟩
                      exact ⟨⟨b, hb, List.mem_append_left _ hr'⟩, h2⟩
                    · rintro ⟨⟨b, hb, hr'⟩, h2⟩
                      rcases List.mem_append.mp hr' with hr' | hr'
                      · exact ⟨⟨b, hb, hr'⟩, h2⟩
                      · have e1 := List.mem_singleton.mp hr'
                        have e2 : a = q0.1 := by rw [← e1]
                        rw [e2]
                        exact (memB _).mp hB
                · refine ⟨_, rfl, _, Sum.inl (q0.1 : Int), rfl, hG, by rw [keysOf_len]; exact small1000 (by omega), B ++ [q0.1], ?_, by rw [upd_same, keysOf_put _ _ hB], ?_, fun a => ?_, by rw [List.length_append]; exact Nat.succ_le_succ lB⟩
                  · intro b o nb eb
                    rw [upd_ne (fun z => nb (by rw [z]; simp))]
                    exact k7 b o nb eb
                  · rw [List.nodup_append]
                    exact ⟨ndB, by simp, fun x hx y hy z => hB (by rw [← List.mem_singleton.mp hy, ← z]; exact hx)⟩
                  · rw [List.mem_append, List.mem_singleton, memB a, take_more hq0]
                    constructor
                    · rintro (⟨⟨b, hb, hr'⟩, h2⟩ | e2)
                      · exact ⟨⟨b, hb, List.mem_append_left _ hr'⟩, h2⟩
                      · rw [e2]
                        exact ⟨⟨q0.2, hA, List.mem_append_right _ (List.mem_singleton.mpr rfl)⟩, hPw.1, hPw.2, hL⟩
                    · rintro ⟨⟨b, hb, hr'⟩, h2⟩
                      rcases List.mem_append.mp hr' with hr' | hr'
                      · exact .inl ⟨⟨b, hb, hr'⟩, h2⟩
                      · have e1 := List.mem_singleton.mp hr'
                        exact .inr (by rw [← e1])
            · rw [decide_eq_false hP]
              exact iteF (no fun h => hP ((memP _ inq.1).mpr ⟨h.2.1, h.2.2.1⟩))
          · rw [decide_eq_false hA]
            exact iteF (no fun h => hA h.1)
        rintro H7 ⟨B, k7, hG, ndB, memB, lB⟩
        rw [List.length_map, Paired.length hC6.prs] at memB
        rw [List.take_of_length_le (Nat.le_refl _)] at memB
        have s7 := keep6 k7
        have lf' := lf.step ok.inR ndB memB
        have L'l := lf'.len
        have hD7 := s7 _ _ hD
        have ndg : d ≠ g := ne_of_none hD hg
        refine ⟨g, _, hG, trivial, fun od => ?_⟩
        refine ⟨_, rfl, g, od, rfl, .inl ⟨keysOf B, upd_same, ?_⟩⟩
        refine for_it walk_keys (fun i σ H' => ∃ (v7 : Option V), σ = [some (.ref c), some (.ref tr), some (.ref sp), some (.ref d), some (.ref e), some (.ref g), some (vN (m + 1)), v7, v8, v9] ∧ H' g = some (.frz od (.dK (keysOf B))) ∧ Kp [d] (upd H7 g (.frz od (.dK (keysOf B)))) H' ∧ H' d = some (.dK (lvOf (L ++ (B.take i).map fun a => (a, m + 1)))))
          ⟨_, rfl, upd_same, Kp.refl _ _, by rw [upd_ne ndg]; simpa using hD7⟩ (fun i σ H' _ ⟨_, _, h, _⟩ => h) ?_ ?_
        · rintro i x σ Hx H8 hi ⟨v7', rfl, hG8, k8, hD8⟩ ⟨rfl, kk, vv, hk, rfl⟩
          obtain ⟨b, hb, ekv⟩ : ∃ b, B[i]? = some b ∧ (kk, vv) = ((Sum.inl (b : Int) : Key), V.bl true) := by
            unfold keysOf at hk
            obtain ⟨b, h1, h2⟩ := get_map hk
            exact ⟨b, h1, h2⟩
          have ekk : kk = (Sum.inl (b : Int) : Key) := congrArg Prod.fst ekv
          subst ekk
          have fresh : b ∉ (L ++ (B.take i).map fun a => (a, m + 1)).map (·.1) := by
            intro hm
            rw [List.map_append, List.map_map] at hm
            rcases List.mem_append.mp hm with hm | hm
            · exact ((memB b).mp (List.mem_of_getElem? hb)).2.2.2 hm
            · obtain ⟨y, hy, e1⟩ := List.mem_map.mp hm
              have e1 : y = b := e1
              subst e1
              obtain ⟨j', hj', e2⟩ := List.getElem_of_mem hy
              rw [List.length_take] at hj'
              have e3 : B[j']? = some y := by
                rw [← e2, List.getElem_take]
                exact List.getElem?_eq_getElem _
              have := nodup_inj ndB e3 hb
              omega
          have il : i < B.length := (List.getElem?_eq_some_iff.mp hb).1
          have Bl : L.length + B.length ≤ C.n := by
            have := L'l
            rw [List.length_append, List.length_map] at this
            exact this
          refine ⟨_, rfl, _, rfl, _, rfl, d, _, rfl, DPut.k (k := Sum.inl (b : Int)) hD8 (by rw [lvOf_len, List.length_append, List.length_map, List.length_take]; exact small1000 (by omega)), _, rfl, by rw [upd_ne ndg.symm]; exact hG8, ?_, ?_⟩
          · intro z o nz ez
            rw [upd_ne (fun y => nz (by rw [y]; simp))]
            exact k8 z o nz ez
          · rw [upd_same]
            have e := lvOf_put _ b (m + 1) fresh
            refine congrArg some (congrArg HO.dK (Eq.trans e ?_))
            rw [take_more hb, List.map_append, List.append_assoc]
            rfl
        · rintro σ H8 ⟨v7', rfl, hG8, k8, hD8⟩
          rw [keysOf_len, List.take_of_length_le (Nat.le_refl _)] at hD8
          have hD9 : (upd H8 g (.dK (keysOf B))) d = some (.dK (lvOf (L ++ B.map fun a => (a, m + 1)))) := by rw [upd_ne ndg]; exact hD8
          have hG9 : (upd H8 g (.dK (keysOf B))) g = some (.dK (keysOf B)) := upd_same
          refine ⟨hG8, ⟨g, m + 1, _, B, keysOf B, _, _, _, rfl, ?_, hD9, hG9, keyed_keysOf B, lf'⟩, ?_⟩
          · intro b o nb eb
            have e6 := k6 b o nb eb
            have nbg : b ≠ g := ne_of_none e6 hg
            rw [upd_ne nbg]
            refine k8 b o nb ?_
            rw [upd_ne nbg]
            exact s7 _ _ e6
          · rw [mu0, restOf_is rfl hD9 hG9, lvOf_len, List.length_append, List.length_map]
            rw [List.length_append, List.length_map] at L'l
            by_cases hB : B = []
            · rw [hB]
              simp [keysOf]
            · have : 0 < B.length := List.length_pos_iff.mpr hB
              have hk : keysOf B ≠ [] := fun z => hB (by
                unfold keysOf at z
                exact List.map_eq_nil_iff.mp z)
              rw [if_neg hk]
              omega
    · rintro σ H' Q1 Q2 hQ ⟨v, e, k, tr, q1⟩
      exact ⟨v, e, k, tr, hQ _ _ q1⟩
end
end Ft

set_option Elab.async false
set_option linter.all false
set_option maxRecDepth 100000
set_option maxHeartbeats 4000000
namespace Ft
open PySem PySem.Spec PyProof.Rows L2
/-- any walk within a block, its turns by an invariant -/
theorem by_turns {J : It} {n : Nat} {G : Hp → Prop} {Y : Nat → Hp → V → Hp → Prop} (w : L2.Walk J n G Y) {Bd : (Hp → Prop) → V → Hp → Prop} {H0 : Hp} {Qd : Hp → Prop} (Pv : Nat → Hp → Prop) (h0 : Pv 0 H0) (hG : ∀ i H, i ≤ n → Pv i H → G H)
    (hs : ∀ i x H H', i < n → Pv i H → Y i H x H' → Bd (Pv (i + 1)) x H') (hd : ∀ H, Pv n H → Qd H) :
    ∃ W : Nat → Nat → Hp → Prop, (∃ m, W 0 m H0) ∧ ∀ i m H, W i m H → (J.stop i H ∧ Qd H) ∨ (J.go i H ∧ ∃ Nx : Hp → Prop, (∀ H', Nx H' → ∃ m', m' < m ∧ W (i + 1) m' H') ∧ ∀ x H', J.yld i H x H' → Bd Nx x H') := by
  refine ⟨fun i m H => m = n - i ∧ i ≤ n ∧ Pv i H, ⟨n, rfl, Nat.zero_le _, h0⟩, fun i m H ⟨em, hi, p⟩ => ?_⟩
  subst em
  have g := hG i H hi p
  by_cases lt : i < n
  · exact .inr ⟨w.goes i H lt g, Pv (i + 1), fun H' p' => ⟨n - (i + 1), by omega, rfl, lt, p'⟩, fun x H' y => hs i x H H' lt p (w.yields i H x H' lt g y)⟩
  · have e : i = n := by omega
    subst e
    exact .inl ⟨w.stops H g, hd H p⟩
/-- a if c else b, as a test -/
def tCond (tc ta tb : TT) : TT := fun σ H Q => tc σ H fun z H1 => if z = true then ta σ H1 Q else tb σ H1 Q
theorem pt_cond {X : Cx} {c a b : Expr} {pos : Pos} {tc ta tb : TT} (hc : PT X c tc) (ha : PT X a ta) (hb : PT X b tb) : PT X (.IfExp c a b pos) (tCond tc ta tb) := by
  refine ⟨fun pins s σ H Q I h => isTrue_IfExp (thn (hc.run pins s σ H _ I h) fun z s1 ⟨H1, I1, q1⟩ => ?_)⟩
  cases z with
  | true => exact ha.run pins s1 σ H1 Q I1 q1
  | false => exact hb.run pins s1 σ H1 Q I1 q1
end Ft

set_option Elab.async false
set_option linter.all false
set_option maxRecDepth 100000
set_option maxHeartbeats 4000000
namespace Ft
open PySem PySem.Spec PyProof.Rows L2
/-! ### the least of tuples of ints -/
theorem rows_alikeD (L : List Row) : PySem.W.AlikeAll (L.map encR) := by
  refine ⟨fun x hx y hy => ?_, fun x hx => ?_⟩
  · obtain ⟨b, _, rfl⟩ := List.mem_map.mp hx
    obtain ⟨b', _, rfl⟩ := List.mem_map.mp hy
    show PySem.W.alike (.tuple (b.2.map .int)) (.tuple (b'.2.map .int)) = true
    simp only [PySem.W.alike]
    exact PySem.W.alike_ints _ _
  · obtain ⟨b, _, rfl⟩ := List.mem_map.mp hx
    exact fun e => nomatch e
theorem lt_rows (p q : Row) : PySem.W.dataLt (encR q) (encR p) = decide (q.2 < p.2) := by
  show PySem.W.dataLt (.tuple (q.2.map .int)) (.tuple (p.2.map .int)) = _
  rw [PySem.W.dataLt_tuple]
  have e := PySem.W.dataLt_ints q.2 p.2
  unfold PySem.W.rowLt at e
  exact e
theorem minD_rows : ∀ (L : List Row) (p : Row), ∃ r, r ∈ p :: L ∧ PySem.W.minD (encR p) (L.map encR) = encR r ∧ ∀ q ∈ p :: L, r.2 ≤ q.2
  | [], p => ⟨p, List.mem_cons_self, rfl, fun q hq => by rw [List.mem_singleton.mp hq]; exact List.le_refl _⟩
  | x :: L, p => by
    have e : PySem.W.minD (encR p) ((x :: L).map encR) = PySem.W.minD (if PySem.W.dataLt (encR x) (encR p) then encR x else encR p) (L.map encR) := rfl
    rw [e, lt_rows]
    by_cases h : x.2 < p.2
    · rw [if_pos (decide_eq_true h)]
      obtain ⟨r, h1, h2, h3⟩ := minD_rows L x
      refine ⟨r, List.mem_cons_of_mem _ h1, h2, fun q hq => ?_⟩
      rcases List.mem_cons.mp hq with e | hq
      · rw [e]
        exact List.le_trans (h3 x List.mem_cons_self) (List.le_of_lt h)
      · exact h3 q hq
    · rw [if_neg (by simpa using h)]
      obtain ⟨r, h1, h2, h3⟩ := minD_rows L p
      refine ⟨r, ?_, h2, fun q hq => ?_⟩
      · rcases List.mem_cons.mp h1 with e | h1
        · exact e ▸ List.mem_cons_self
        · exact List.mem_cons_of_mem _ (List.mem_cons_of_mem _ h1)
      · rcases List.mem_cons.mp hq with e | hq
        · exact h3 q (e ▸ List.mem_cons_self)
        · rcases List.mem_cons.mp hq with e | hq
          · rw [e]
            exact List.le_trans (h3 p List.mem_cons_self) (List.not_lt.mp h)
          · exact h3 q (List.mem_cons_of_mem _ hq)
theorem encR_inj {p q : Row} (h : encR p = encR q) : p.2 = q.2 := by
  unfold encR at h
  injection h with h
  have : ∀ (l1 l2 : List Int), l1.map PyData.int = l2.map PyData.int → l1 = l2 := by
    intro l1
    induction l1 with
    | nil =>
      intro l2 e
      cases l2 with
      | nil => rfl
      | cons b l2 => simp at e
    | cons a l1 ih =>
      intro l2 e
      cases l2 with
      | nil => simp at e
      | cons b l2 =>
        rw [List.map_cons, List.map_cons] at e
        injection e with e1 e2
        injection e1 with e1
        rw [e1, ih l2 e2]
  exact this _ _ h
def rMinR (K : PySem.W.Frag) : List V → Hp → VK → Prop := fun vs H Q => ∃ (a : Addr) (L : List Row), vs = [V.ref a] ∧ SqL K H a (L.map fun p => V.ref p.1) ∧ (∀ p ∈ L, SqT K H p.1 (p.2.map V.int)) ∧ L ≠ [] ∧
  ∀ r ∈ L, (∀ q ∈ L, r.2 ≤ q.2) → Q (.ref r.1) H
theorem rows_dp {K : PySem.W.Frag} {H : Hp} : ∀ {L : List Row}, (∀ p ∈ L, SqT K H p.1 (p.2.map V.int)) → DpAll K H (L.map fun p => V.ref p.1) (L.map encR)
  | [], _ => .nil
  | p :: L, h => .cons (.tup (h p List.mem_cons_self) (dpAll_ints p.2)) (rows_dp fun q hq => h q (List.mem_cons_of_mem _ hq))
theorem rows_depth (L : List Row) : PyData.depthAll (L.map encR) ≤ 1 := by
  induction L with
  | nil => simp [PyData.depthAll]
  | cons p L ih =>
    have e : (encR p).depth = 1 := by
      show PyData.depth (.tuple (p.2.map .int)) = 1
      simp only [PyData.depth, PySem.W.depth_ints]
    rw [List.map_cons]
    simp only [PyData.depthAll, e]
    omega
theorem cr_minR {X : Cx} (hc : X.calm = true) (hu : X.A.units + 64 < cLine) : CallR X (.builtin "min") (rMinR X.K) := by
  intro pins s σ H xs us Q I r h
  obtain ⟨a, L, rfl, hl, hk, hne, q⟩ := h
  rw [Vals.ref1 r]
  obtain ⟨its, rv, pl, hz⟩ := I.list hl
  obtain ⟨as, rd⟩ := Dp.readsAll I _ _ its (rows_dp hk) rv
  have ei : its = L.map fun p => Value.ref p.1 := refs_of_vals rv
  obtain ⟨p, L0, rfl⟩ : ∃ p L0, L = p :: L0 := by
    cases L with
    | nil => exact absurd rfl hne
    | cons p L0 => exact ⟨p, L0, rfl⟩
  obtain ⟨rb, hb1, hb2, hb3⟩ := minD_rows L0 p
  have dd := rows_depth (p :: L0)
  refine PySem.W.min_list_data (vs := its.toArray) (x := encR p) (xs := L0.map encR) (as := as) (I.ok.hd hc) pl.isList (by simpa using rd) (rows_alikeD (p :: L0)) (by
    have : PyData.depthAll (encR p :: L0.map encR) ≤ 1 := dd
    omega) fun i v h' tk bs hv rm hold => ?_
  have hv' : its[i]? = some v := by simpa using hv
  rw [ei, List.getElem?_map] at hv'
  cases eg : (p :: L0)[i]? with
  | none =>
    rw [eg] at hv'
    cases hv'
  | some rr =>
    rw [eg] at hv'
    have ev : v = Value.ref rr.1 := (Option.some.inj hv').symm
    have hm : rr ∈ p :: L0 := List.mem_of_getElem? eg
    obtain ⟨as', rd'⟩ := Dp.reads I (encR rr) (.ref rr.1) (.ref rr.1) (.tup (hk rr hm) (dpAll_ints rr.2)) rfl
    rw [ev] at rm
    have e := (reads_det (fun b o e _ => hold b o e) rd' rm).1
    rw [hb2] at e
    have e2 := encR_inj e
    subst ev
    exact ⟨.ref rr.1, H, I.kept hold, rfl, q rr hm fun q' hq' => by rw [← e2]; exact hb3 q' hq'⟩
end Ft

set_option Elab.async false
set_option linter.all false
set_option maxRecDepth 100000
set_option maxHeartbeats 8000000
namespace Ft
open PySem PySem.Spec PyProof.Rows L2
/-- some place of S has a road to a place that is numbered -/
def Starts (rs : List (Nat × Nat)) (S : List Nat) (L : List (Nat × Nat)) : Prop := ∃ a ∈ S, ∃ b k, (a, b) ∈ rs ∧ (b, k) ∈ L
def countOf (σ : L2.St) : Nat := match σ[6]? with
  | some (some (V.int i)) => (i + 1).toNat
  | _ => 0
theorem dget_lv {H : Hp} {d : Addr} {L : List (Nat × Nat)} (hD : H d = some (.dK (lvOf L))) (b : Nat) : DGet H d (vN b) (valV (lvOf L) (Sum.inl (b : Int) : Key)) := DGet.k (k := Sum.inl (b : Int)) hD
/-- from p on, k roads left behind the next one: at each step the least place with that number -/
inductive Leads (rs L : List (Nat × Nat)) : Nat → Int → List Nat → Prop
  | stop (p : Nat) : Leads rs L p (-1) []
  | go {p k x : Nat} {l : List Nat} : (p, x) ∈ rs → (x, k) ∈ L → (∀ y, (p, y) ∈ rs → (y, k) ∈ L → x ≤ y) → Leads rs L x ((k : Int) - 1) l → Leads rs L p k (x :: l)
/-- the walk that missed tells -/
def Best (rs : List (Nat × Nat)) (S : List Nat) (L : List (Nat × Nat)) (wk : List Nat) : Prop := ∃ k a l, wk = a :: l ∧ a ∈ S ∧ (∃ b, (a, b) ∈ rs ∧ (b, k) ∈ L) ∧ (∀ a' b' k', a' ∈ S → (a', b') ∈ rs → (b', k') ∈ L → k < k' ∨ (k = k' ∧ a ≤ a')) ∧ Leads rs L a (k : Int) l
theorem le_two {k a k' a' : Nat} (h : iN [k, a] ≤ iN [k', a']) : k < k' ∨ (k = k' ∧ a ≤ a') := by
  have h2 : ([(k : Int), (a : Int)] : List Int) ≤ [(k' : Int), (a' : Int)] := h
  rw [List.cons_le_cons_iff, List.cons_le_cons_iff] at h2
  omega
/-- what a function of a map and two lots owes -/
def DueLL (K : PySem.W.Frag) (ca : Str → Addr) (H : Hp) (E : XK) (dc dt dl : PyData) (ok : Chart → List Nat → List Nat → Prop) : Prop :=
  (∀ x i, mapErr dc = some (x, i) → Raised K ca H E (x, .int i)) ∧ ∀ C, dc = chartD C → C.Ok → (lotOk C.n dt = false ∨ lotOk C.n dl = false → Raised K ca H E ("BadLot", .int (-1))) ∧
    ∀ U S, dt = lotD U → dl = lotD S → (∀ x ∈ U, x < C.n) → U.Pairwise (· < ·) → (∀ x ∈ S, x < C.n) → S.Pairwise (· < ·) → ok C U S
section
variable {P : Program} {w : World} {K : PySem.W.Frag} {mg : Str → Option Value} {base : Heap} {ca : Str → Addr}
/-! ### missed -/
def spX_missed (K : PySem.W.Frag) (ca : Str → Addr) : Sp := fun vs H Q E => ∃ (vc vt vl : V) (dc dt dl : PyData), vs = [vc, vt, vl] ∧ Dp K H vc dc ∧ Dp K H vt dt ∧ Dp K H vl dl ∧ DueLL K ca H E dc dt dl fun C U S =>
  ∀ v L H', Same H H' → Left C.n C.roads C.wished U L → (¬ Starts C.roads S L → v = .non) → (Starts C.roads S L → ∃ t wk, v = .ref t ∧ SqT K H' t (wk.map vN) ∧ Best C.roads S L wk) → Q v H'
theorem cal_missed (T : Txt mg) (D : Def K mg "missed" s_missed) (c_made_map : CalX P w K mg base 5 "made_map" (spX_made_map K ca)) (c_check_lot : CalX P w K mg base 5 "check_lot" (spX_check_lot K ca)) (c_roads_left : Cal P w K mg base 3 "roads_left" (sp_roads_left K)) (c_roads_from : Cal P w K mg base 2 "roads_from" (sp_roads_from K)) :
    CalX P w K mg base 6 "missed" (spX_missed K ca) := by
  refine calx_of D sc_missed (fun _ _ _ _ _ _ us hl => match us, hl with | [_, _, _], _ => rfl) (fun vs H Q E h => ?_) (fun f cdv A outer s H vs Q E hr h => ?_)
  · obtain ⟨vc, vt, vl, dc, dt, dl, rfl, _⟩ := h
    rfl
  · obtain ⟨vc, vt, vl, dc, dt, dl, rfl, hdc, hdt, hdl, q1, q2⟩ := h
    have hu := hu_of hr
    have hU := hr.units
    refine ⟨_, (pss_cons (ps_expr (pe_x (L2N.takes_of rfl rfl rfl rfl) c_made_map hr (by decide) (by rfl) (pa_cons (pv 0) pa_nil)))
      (pss_cons (ps_expr (pe_x (L2N.takes_of rfl rfl rfl rfl) c_check_lot hr (by decide) (by rfl) (pa_cons (pv 0) (pa_cons (pv 1) pa_nil))))
      (pss_cons (ps_expr (pe_x (L2N.takes_of rfl rfl rfl rfl) c_check_lot hr (by decide) (by rfl) (pa_cons (pv 0) (pa_cons (pv 2) pa_nil))))
      (pss_cons (ps_set (i := 3) sc_missed.nd rfl (Or.inr rfl) (pe_c c_roads_left hr (by decide) (by rfl) (pa_cons (pv 0) (pa_cons (pv 1) pa_nil))))
      (pss_cons (ps_set (i := 4) sc_missed.nd rfl (Or.inr rfl) (pe_c c_roads_from hr (by decide) (by rfl) (pa_cons (pv 0) pa_nil)))
      (pss_cons (ps_setLc2 (i := 5) (own := [("a", 9), ("b", 10)]) (vs1 := [10]) rfl sc_missed.nd rfl rfl (sw_true rfl rfl rfl (by decide +kernel)) (show PI _ _ _ (iTup K _) from pi_tup (pv 2)) (blkOk_by (N := ["chart", "traps", "lot", "left", "targets", "starts", "many", "place", "walk", "a", "b"]) (sc := L2.defScope s_missed) (by decide +kernel)) (by decide) (fun _ _ _ _ _ => (pg_name (i := 9) sc_missed.nd rfl (Or.inl rfl))) (fun _ _ _ _ _ => pts_nil) (fun _ _ _ _ _ => (show PI _ _ _ (iList K _) from pi_list (pe_ix (show IxR _ (rIxL K) from ix_list) (pv 4) (pv 9) (fun _ _ => rfl)))) (fun _ _ _ _ _ => (pg_name (i := 10) sc_missed.nd rfl (Or.inl rfl))) (fun _ _ _ _ _ => pts_one (pt_cmp (pc_din hu (pv 10) (pv 3)))) (fun _ _ _ _ _ => (pe_tup (pa_cons (pe_dget hu (pv 3) (pv 10) (fun _ _ => rfl)) (pa_cons (pv 9) pa_nil)))))
      (pss_cons (ps_if (pt_not (pt_truth (pv 5) (by intro _; rfl))) (pss_one (ps_ret pe_non)) pss_nil)
      (pss_cons (ps_asg (pe_callB (show CallR _ _ (rMinR K) from cr_minR rfl hU) (by rfl) T.min (by decide +kernel) (pa_cons (pv 5) pa_nil)) (show PG _ _ (gTup K 2 _) from pg_tup (by rfl) (pgs_cons (pg_name (i := 6) sc_missed.nd rfl (Or.inr rfl)) (pgs_cons (pg_name (i := 7) sc_missed.nd rfl (Or.inl rfl)) pgs_nil))))
      (pss_cons (ps_set (i := 8) sc_missed.nd rfl (Or.inl rfl) (pe_lst (pa_cons (pv 7) pa_nil)))
      (pss_cons (ps_while (passes_of rfl) (pt_cmpR op_ge (pv 6) pe_int (nomark _)) (pss_cons (ps_set (i := 7) sc_missed.nd rfl (Or.inl rfl) (pe_callB (show CallR _ _ (rMin K) from cr_min rfl) (by rfl) T.min (by decide +kernel) (pa_cons (pe_lc (own := [("b", 10)]) rfl sc_missed.nd (show PI _ _ _ (iList K _) from pi_list (pe_ix (show IxR _ (rIxL K) from ix_list) (pv 4) (pv 7) (fun _ _ => rfl))) (blkOk_by (N := ["chart", "traps", "lot", "left", "targets", "starts", "many", "place", "walk", "a", "b"]) (sc := L2.defScope s_missed) (by decide +kernel)) (fun _ _ _ _ _ => (pg_name (i := 10) sc_missed.nd rfl (Or.inl rfl))) (fun _ _ _ _ _ => pts_one (pt_cmpR op_eq (pe_dget1 hu (pv 3) (pv 10) ⟨rfl, rfl, rfl, rfl⟩) (pv 6) (nomark _))) (fun _ _ _ _ _ => (pv 10))) pa_nil)))
        (pss_cons (ps_expr (pe_bm PySem.F.plainAttrs_list PySem.F.slot_list_append PySem.F.type_list_append mt_append (pv 8) (pa_cons (pv 7) pa_nil)))
        (pss_one (ps_set (i := 6) sc_missed.nd rfl (Or.inr rfl) (pe_op op_sub (pv 6) pe_int))))))
      (pss_one (ps_ret (pe_callTy (show CallR _ _ (rTupleOf K) from call_tupleOf) (by rfl) T.tuple (by decide +kernel) (pa_cons (pv 8) pa_nil)))))))))))))), ?_⟩
    refine ⟨_, rfl, vc, dc, rfl, hdc, fun em c C c' H1 ev ec ok s1 _ => ?_, fun x i em => q1 x i em⟩
    subst ev ec
    obtain ⟨qe, qo⟩ := q2 C rfl ok
    obtain ⟨c0, e0, r, wd, ts, hC⟩ := chart_dp hdc
    cases e0
    refine ⟨_, rfl, _, rfl, c, r, wd, C.n, vt, dt, rfl, (hC.same s1).top, Dp.same s1 hdt, fun okT H2 s2 => ?_, fun bad => Raised.same (qe (.inl bad)) s1⟩
    have s02 := s1.trans s2
    refine ⟨_, rfl, _, rfl, c, r, wd, C.n, vl, dl, rfl, (hC.same s02).top, Dp.same s02 hdl, fun okL H3 s3 => ?_, fun bad => Raised.same (qe (.inr bad)) s02⟩
    have s03 := s02.trans s3
    obtain ⟨U, rfl, upU, inU⟩ := lotOk_is okT
    obtain ⟨S, rfl, upS, inS⟩ := lotOk_is okL
    have q := qo U S rfl rfl inU upU inS upS
    obtain ⟨tr, rfl, hT⟩ := lot_dp hdt
    obtain ⟨lo, rfl, hS⟩ := lot_dp hdl
    have n60 := ok.n60
    have hu := hu_of hr
    have hU := hr.units
    have Ul := up_len upU inU
    have Sl := up_len upS inS
    refine ⟨_, rfl, _, rfl, c, tr, C, U, rfl, ⟨r, wd, ts, hC.same s03⟩, ok, Same.sqT s03 hT, by omega, fun d L H4 s4 _ hD4 lf => ?_⟩
    have s04 := s03.trans s4
    refine ⟨_, rfl, c, C, rfl, ⟨r, wd, ts, hC.same s04⟩, ok, fun g ls H5 s5 el hL => ?_⟩
    have s05 := s04.trans s5
    have hD5 := s5 _ _ hD4
    have hS5 := Same.sqT s05 hS
    have Lk : ∀ b k, (b, k) ∈ L → k < 60 := fun b k h => by have := lf.many k b h; omega
    have Llen : L.length ≤ C.n := by
      have := len_of_lt (L.map (·.1)) C.n lf.nd fun x hx => by
        obtain ⟨p, hp, rfl⟩ := List.mem_map.mp hx
        exact (lf.lt p hp).1
      rwa [List.length_map] at this
    refine ⟨_, rfl, lo, rfl, ⟨_, hS5⟩, fun st hst => ?_⟩
    have keep5 : ∀ {H' : Hp}, Kp [st] H5 H' → Same H5 H' := fun {H'} k b o e' => k b o (fun m => by rw [List.mem_singleton.mp m, hst] at e'; cases e') e'
    refine by_turns (walk_tup (K := K) (a := lo) (xs := S.map vN)) (fun i H' => ∃ R : List Row, Kp [st] H5 H' ∧ H' st = some (.lst (R.map fun p => V.ref p.1)) ∧ (∀ p ∈ R, H' p.1 = some (.tup (p.2.map V.int))) ∧ (∀ p ∈ R, ∃ a ∈ S, ∃ b k, (a, b) ∈ C.roads ∧ (b, k) ∈ L ∧ p.2 = iN [k, a]) ∧ (∀ a ∈ S.take i, ∀ b k, (a, b) ∈ C.roads → (b, k) ∈ L → ∃ p ∈ R, p.2 = iN [k, a]) ∧ R.length ≤ i * 240)
      ⟨[], (fun b o x e' => by rw [upd_ne (ne_of_none e' hst)]; exact e'), upd_same, (fun _ h => nomatch h), (fun _ h => nomatch h), (fun a h => by simp at h), Nat.zero_le _⟩ (fun i H' _ ⟨_, k, _⟩ => Same.sqT (keep5 k) hS5) ?_ ?_
    · rintro i x Hx H6 hi ⟨R, k6, hR, tupR, fromR, toR, lR⟩ ⟨rfl, hx⟩
      obtain ⟨a, ha, rfl⟩ := get_map hx
      have haS := List.mem_of_getElem? ha
      have han := inS a haS
      have iS : i < S.length := (List.getElem?_eq_some_iff.mp ha).1
      obtain ⟨l, hl⟩ : ∃ l, ls[a]? = some l := ⟨_, List.getElem?_eq_getElem (by rw [el]; exact han)⟩
      have keep6 := keep5 k6
      have hG6 : H6 g = some (.lst (ls.map V.ref)) := keep6 _ _ hL.top
      have hl6 : H6 l = some (.lst ((succs C.roads a).map vN)) := keep6 _ _ (hL.each a l hl)
      have nst : ∀ {b : Addr} {o : HO}, H5 b = some o → b ≠ st := fun e => ne_of_none e hst
      refine ⟨rfl, ?_⟩
      refine ⟨_, rfl, _, rfl, g, _, _, _, rfl, rfl, .inl (.inl hG6), atI_nat (v := V.ref l) (by rw [List.getElem?_map, hl]; rfl), l, rfl, ⟨_, .inl (.inl hl6)⟩, ?_⟩
      have m240 := ok.many
      have sl := succs_len C.roads a
      refine by_turns (walk_list (K := K) (a := l) (xs := (succs C.roads a).map vN)) (fun j H' => ∃ R : List Row, Kp [st] H5 H' ∧ H' st = some (.lst (R.map fun p => V.ref p.1)) ∧ (∀ p ∈ R, H' p.1 = some (.tup (p.2.map V.int))) ∧ (∀ p ∈ R, ∃ a ∈ S, ∃ b k, (a, b) ∈ C.roads ∧ (b, k) ∈ L ∧ p.2 = iN [k, a]) ∧ (∀ a ∈ S.take i, ∀ b k, (a, b) ∈ C.roads → (b, k) ∈ L → ∃ p ∈ R, p.2 = iN [k, a]) ∧ (∀ b ∈ (succs C.roads a).take j, ∀ k, (b, k) ∈ L → ∃ p ∈ R, p.2 = iN [k, a]) ∧ R.length ≤ i * 240 + j)
        ⟨R, k6, hR, tupR, fromR, toR, (fun b h => by simp at h), lR⟩ (fun j H' _ ⟨_, k, _⟩ => .inl (.inl (keep5 k _ _ (hL.each a l hl)))) ?_ ?_
      · rintro j y Hy H7 hj ⟨R7, k7, hR7, tup7, from7, to7, toj7, l7⟩ ⟨rfl, hy⟩
        obtain ⟨b, hb, rfl⟩ := get_map hy
        have hbr : (a, b) ∈ C.roads := succs_mem.mp (List.mem_of_getElem? hb)
        have jl : j < (succs C.roads a).length := (List.getElem?_eq_some_iff.mp hb).1
        have hD7 := keep5 k7 _ _ hD5
        have gL := dget_lv hD7 b
        refine ⟨rfl, ?_⟩
        refine ⟨_, rfl, _, rfl, d, _, rfl, gL, _, rfl, ?_⟩
        by_cases hbL : b ∈ L.map (·.1)
        · obtain ⟨k, hk⟩ := key_mem.mp hbL
          rw [lvOf_some L _ k lf.nd hk] at gL ⊢
          refine iteT ?_
          refine ⟨_, rfl, _, rfl, d, _, rfl, gL, _, rfl, by show 2 ≤ sizeLine; decide, fun t ht => ?_⟩
          have s8 : Same H7 (upd H7 t (.tup [vN k, vN a])) := same_upd ht
          have hT8 : (upd H7 t (.tup [vN k, vN a])) t = some (.tup ((iN [k, a]).map V.int)) := upd_same
          have hR8 := s8 _ _ hR7
          have nt : ∀ p ∈ R7, (upd H7 t (.tup [vN k, vN a])) p.1 = some (.tup (p.2.map V.int)) := fun p hp => s8 _ _ (tup7 p hp)
          have k8 : Kp [st] H5 (upd H7 t (.tup [vN k, vN a])) := k7.trans (Same.kp s8)
          generalize upd H7 t (.tup [vN k, vN a]) = H8 at s8 hT8 hR8 nt k8
          have big : (20000 : Nat) < sizeLine := by decide
          refine ⟨_, hR8, by rw [List.length_map]; omega, R7 ++ [(t, iN [k, a])], ?_, by rw [upd_same, List.map_append]; rfl, ?_, ?_, ?_, ?_, by rw [List.length_append]; exact Nat.succ_le_succ l7⟩
          · intro x o nx ex
            rw [upd_ne (fun z => nx (by rw [z]; simp))]
            exact k8 x o nx ex
          · intro p hp
            have off : ∀ z, H8 z = some (.tup (p.2.map V.int)) → z ≠ st := fun z hz e => by rw [e, hR8] at hz; cases hz
            rcases List.mem_append.mp hp with hp | hp
            · rw [upd_ne (off _ (nt p hp))]
              exact nt p hp
            · have ep := List.mem_singleton.mp hp
              subst ep
              rw [upd_ne (off _ hT8)]
              exact hT8
          · intro p hp
            rcases List.mem_append.mp hp with hp | hp
            · exact from7 p hp
            · rw [List.mem_singleton.mp hp]
              exact ⟨a, haS, b, k, hbr, hk, rfl⟩
          · intro a' ha' b' k' h1 h2
            obtain ⟨p, hp, e⟩ := to7 a' ha' b' k' h1 h2
            exact ⟨p, List.mem_append_left _ hp, e⟩
          · intro b' hb' k' hk'
            rw [take_more hb] at hb'
            rcases List.mem_append.mp hb' with hb' | hb'
            · obtain ⟨p, hp, e⟩ := toj7 b' hb' k' hk'
              exact ⟨p, List.mem_append_left _ hp, e⟩
            · rw [List.mem_singleton.mp hb'] at hk'
              rw [lf.one hk' hk]
              exact ⟨(t, iN [k, a]), List.mem_append_right _ (List.mem_singleton.mpr rfl), rfl⟩
        · rw [lvOf_none L _ hbL]
          refine iteF ⟨R7, k7, hR7, tup7, from7, to7, fun b' hb' k hk => ?_, by omega⟩
          rw [take_more hb] at hb'
          rcases List.mem_append.mp hb' with hb' | hb'
          · exact toj7 b' hb' k hk
          · rw [List.mem_singleton.mp hb'] at hk
            exact absurd (key_mem.mpr ⟨k, hk⟩) hbL
      · rintro H7 ⟨R7, k7, hR7, tup7, from7, to7, toj7, l7⟩
        rw [List.length_map] at l7
        rw [List.take_of_length_le (by rw [List.length_map]; exact Nat.le_refl _)] at toj7
        refine ⟨R7, k7, hR7, tup7, from7, fun a' ha' b k hr' hk => ?_, by omega⟩
        rw [take_more ha] at ha'
        rcases List.mem_append.mp ha' with ha' | ha'
        · exact to7 a' ha' b k hr' hk
        · rw [List.mem_singleton.mp ha'] at hr' ⊢
          exact toj7 b (succs_mem.mpr hr') k hk
    rintro H6 ⟨R, k6, hR, tupR, fromR, toR, lR⟩
    rw [List.take_of_length_le (by rw [List.length_map]; exact Nat.le_refl _)] at toR
    have s6 := keep5 k6
    have s06 := s05.trans s6
    have hD6 := s6 _ _ hD5
    refine ⟨_, rfl, _, .inl ⟨_, .inl (.inl hR), rfl⟩, ?_⟩
    cases R with
    | nil =>
      refine iteT ?_
      exact q .non L H6 s06 lf (fun _ => rfl) (fun ⟨a, ha, b, k, h1, h2⟩ => let ⟨_, hp, _⟩ := toR a ha b k h1 h2; nomatch hp)
    | cons r0 R0 =>
      refine iteF ?_
      have st1 : Starts C.roads S L := by
        obtain ⟨a, ha, b, k, h1, h2, _⟩ := fromR r0 List.mem_cons_self
        exact ⟨a, ha, b, k, h1, h2⟩
      refine ⟨_, rfl, st, r0 :: R0, rfl, .inl (.inl hR), (fun p hp => .inl (.inl (tupR p hp))), (fun z => nomatch z), fun rr hrr least => ?_⟩
      obtain ⟨a, haS, b, k, hab, hbk, err⟩ := fromR rr hrr
      have least' : ∀ a' b' k', a' ∈ S → (a', b') ∈ C.roads → (b', k') ∈ L → k < k' ∨ (k = k' ∧ a ≤ a') := fun a' b' k' h1 h2 h3 => by
        obtain ⟨p, hp, e⟩ := toR a' h1 b' k' h2 h3
        have z := least p hp
        rw [e, err] at z
        exact le_two z
      have hrow := tupR rr hrr
      rw [err] at hrow
      refine ⟨rr.1, _, rfl, .inl (.inl hrow), rfl, _, _, rfl, _, _, rfl, rfl, ?_⟩
      refine ⟨_, rfl, by show 1 ≤ sizeLine; decide, fun wk hwk => ?_⟩
      have s7 : Same H6 (upd H6 wk (.lst [V.int (a : Int)])) := same_upd hwk
      have hW7 : (upd H6 wk (.lst [V.int (a : Int)])) wk = some (.lst ([a].map vN)) := upd_same
      have hD7 := s7 _ _ hD6
      have s07 := s06.trans s7
      have hL7 : LotsAt (upd H6 wk (.lst [V.int (a : Int)])) g ls (succs C.roads) := ⟨s7 _ _ (s6 _ _ hL.top), fun x l e => s7 _ _ (s6 _ _ (hL.each x l e))⟩
      have nwd : d ≠ wk := ne_of_none hD6 hwk
      have hwk0 : H wk = none := s06.free hwk
      have offW : ∀ {b : Addr} {o : HO}, H6 b = some o → b ≠ wk := fun e => ne_of_none e hwk
      refine at_name ?_
      dsimp only
      refine at_seq ?_
      have rest : ∀ H', Kp [wk] (upd H6 wk (.lst [V.int (a : Int)])) H' → Same H H' := fun H' kk z o ez => by
        have e6 := s06 _ _ ez
        refine kk z o (fun m => offW e6 (List.mem_singleton.mp m)) ?_
        rw [upd_ne (offW e6)]
        exact e6
      generalize upd H6 wk (.lst [V.int (a : Int)]) = H7 at s7 hW7 hD7 s07 hL7 rest
      refine while_by (fun σ H' => ∃ (mm : Int) (p : Nat) (ww : List Nat) (v9 v10 : Option V), σ = [some (.ref c), some (.ref tr), some (.ref lo), some (.ref d), some (.ref g), some (.ref st), some (.int mm), some (vN p), some (.ref wk), v9, v10] ∧ Kp [wk] H7 H' ∧ H' wk = some (.lst (ww.map vN)) ∧ p < C.n ∧
        (mm = -1 ∨ ∃ k b : Nat, mm = (k : Int) ∧ (p, b) ∈ C.roads ∧ (b, k) ∈ L) ∧ (ww.length : Int) + mm ≤ 100 ∧ ∃ pre, ww = a :: pre ∧ ∀ l, Leads C.roads L p mm l → Leads C.roads L a k (pre ++ l)) (fun σ _ => countOf σ) ?_ ?_ ?_
      · refine ⟨k, a, [a], _, _, rfl, Kp.refl _ _, hW7, inS a haS, .inr ⟨k, b, rfl, hab, hbk⟩, ?_⟩
        refine ⟨?_, [], rfl, fun l h => h⟩
        have := Lk b k hbk
        simp
        omega
      · rintro σ H8 ⟨mm, p, ww, v9, v10, rfl, k8, hW8, hp, kind, cap, pre, epre, lead⟩
        refine ⟨_, rfl, _, _, rfl, rfl, _, rfl, ?_⟩
        rcases kind with e1 | ⟨k', b', rfl, hpb, hbk'⟩
        · subst e1
          refine iteF ?_
          refine ⟨_, rfl, wk, _, rfl, .inl ⟨.inl (.inl hW8), fun t ht => ?_⟩⟩
          exact q (.ref t) L _ ((rest _ k8).trans (same_upd ht)) lf (fun n => absurd st1 n) (fun _ => ⟨t, ww, rfl, .inl (.inl upd_same), k, a, pre, epre, haS, ⟨b, hab, hbk⟩, least', by have z := lead [] (.stop p); rwa [List.append_nil] at z⟩)
        · show if decide ((k' : Int) ≥ 0) = true then _ else _
          rw [decide_eq_true (show (k' : Int) ≥ 0 by omega)]
          refine iteT ?_
          obtain ⟨l, hl⟩ : ∃ l, ls[p]? = some l := ⟨_, List.getElem?_eq_getElem (by rw [el]; exact hp)⟩
          have keep8 : ∀ z o, H7 z = some o → z ≠ wk → H8 z = some o := fun z o e n => k8 z o (by simp [n]) e
          have hg0 : g ≠ wk := offW (s6 _ _ hL.top)
          have hl0 : l ≠ wk := offW (s6 _ _ (hL.each p l hl))
          have hG8 := keep8 _ _ hL7.top hg0
          have hl8 := keep8 _ _ (hL7.each p l hl) hl0
          have hD8 := keep8 _ _ hD7 nwd
          refine ⟨_, rfl, _, rfl, g, _, _, _, rfl, rfl, .inl (.inl hG8), atI_nat (v := V.ref l) (by rw [List.getElem?_map, hl]; rfl), l, rfl, ⟨_, .inl (.inl hl8)⟩, fun e he => ?_⟩
          have keep9 : ∀ {H' : Hp}, Kp [e] H8 H' → Same H8 H' := fun {H'} k b o e' => k b o (fun m => by rw [List.mem_singleton.mp m, he] at e'; cases e') e'
          have m240 := ok.many
          have sl := succs_len C.roads p
          refine lc_list (K := K) (xs := (succs C.roads p).map vN) (fun j H' => ∃ F : List Nat, Kp [e] H8 H' ∧ H' e = some (.lst (F.map vN)) ∧ F.length ≤ j ∧ (∀ x ∈ F, (p, x) ∈ C.roads ∧ (x, k') ∈ L) ∧ ∀ x ∈ (succs C.roads p).take j, (x, k') ∈ L → x ∈ F)
            ⟨[], (fun z o x e' => by rw [upd_ne (ne_of_none e' he)]; exact e'), upd_same, Nat.le_refl _, (fun _ h => nomatch h), fun x h => by simp at h⟩ (fun j H' _ ⟨_, k, _⟩ => .inl (.inl (keep9 k _ _ hl8))) ?_ ?_
          · rintro j y H9 hy ⟨F, k9, hE, lF, inF, toF⟩
            obtain ⟨x, hx, rfl⟩ := get_map hy
            have jl : j < (succs C.roads p).length := (List.getElem?_eq_some_iff.mp hx).1
            have hpx : (p, x) ∈ C.roads := succs_mem.mp (List.mem_of_getElem? hx)
            have hD9 := keep9 k9 _ _ hD8
            have gL := dget_lv hD9 x
            have no : (x, k') ∉ L → ∃ F : List Nat, Kp [e] H8 H9 ∧ H9 e = some (.lst (F.map vN)) ∧ F.length ≤ j + 1 ∧ (∀ x ∈ F, (p, x) ∈ C.roads ∧ (x, k') ∈ L) ∧ ∀ x ∈ (succs C.roads p).take (j + 1), (x, k') ∈ L → x ∈ F := fun h => by
              refine ⟨F, k9, hE, by omega, inF, fun z hz hzL => ?_⟩
              rw [take_more hx] at hz
              rcases List.mem_append.mp hz with hz | hz
              · exact toF z hz hzL
              · rw [List.mem_singleton.mp hz] at hzL
                exact absurd hzL h
            refine ⟨rfl, ?_⟩
            refine ⟨_, rfl, d, rfl, .inl ⟨_, .inl hD9⟩, _, rfl, _, gL, _, rfl, ?_⟩
            by_cases hxL : x ∈ L.map (·.1)
            · obtain ⟨kx, hkx⟩ := key_mem.mp hxL
              rw [lvOf_some L _ kx lf.nd hkx]
              refine ⟨rfl, _, rfl, ite_any (fun h => ?_) (fun h => ?_)⟩
              · have e1 : kx = k' := by
                  have := of_decide_eq_true h
                  have z : (kx : Int) = k' := V.int.inj this
                  omega
                rw [e1] at hkx
                refine ⟨_, rfl, _, hE, by rw [List.length_map]; exact small1000 (by omega), F ++ [x], ?_, by rw [upd_same, List.map_append]; rfl, by rw [List.length_append]; exact Nat.succ_le_succ lF, ?_, ?_⟩
                · intro z o nz ez
                  rw [upd_ne (fun y => nz (by rw [y]; simp))]
                  exact k9 z o nz ez
                · intro z hz
                  rcases List.mem_append.mp hz with hz | hz
                  · exact inF z hz
                  · rw [List.mem_singleton.mp hz]
                    exact ⟨hpx, hkx⟩
                · intro z hz hzL
                  rw [take_more hx] at hz
                  rcases List.mem_append.mp hz with hz | hz
                  · exact List.mem_append_left _ (toF z hz hzL)
                  · exact List.mem_append_right _ hz
              · refine no fun hm => ?_
                have := of_decide_eq_false h
                exact this (by rw [lf.one hkx hm]; rfl)
            · rw [lvOf_none L _ hxL]
              refine ⟨rfl, _, rfl, ite_any (fun h => absurd (of_decide_eq_true h) (fun z => nomatch z)) (fun _ => no fun hm => hxL (key_mem.mpr ⟨k', hm⟩))⟩
          · rintro H9 ⟨F, k9, hE, lF, inF, toF⟩
            rw [List.take_of_length_le (by rw [List.length_map]; exact Nat.le_refl _)] at toF
            have bF := toF b' (succs_mem.mpr hpb) hbk'
            refine ⟨e, iN F, rfl, .inl (.inl (by rw [← vN_map]; exact hE)), by rw [iN_length]; exact List.length_pos_of_mem bF, fun mi hmi lem => ?_⟩
            obtain ⟨x, hx, rfl⟩ : ∃ x ∈ F, (x : Int) = mi := by
              unfold iN at hmi
              obtain ⟨x, hx, e1⟩ := List.mem_map.mp hmi
              exact ⟨x, hx, e1⟩
            obtain ⟨hpx, hxk⟩ := inF x hx
            have hW9 := keep9 k9 _ _ hW8
            have k'60 := Lk x k' hxk
            refine ⟨_, rfl, .inl ⟨rfl, _, .inl (.inl hW9)⟩, _, rfl, wk, _, _, rfl, rfl, hW9, by rw [List.length_map]; exact small1000 (by omega), ?_⟩
            refine ⟨_, rfl, _, _, rfl, rfl, ⟨(k' : Int) - 1, x, ww ++ [x], _, _, rfl, ?_, by rw [upd_same, List.map_append]; rfl, (lf.lt _ hxk).1, ?_, ?_⟩, ?_⟩
            · intro z o nz ez
              have nz' : z ≠ wk := fun y => nz (by rw [y]; simp)
              rw [upd_ne nz']
              exact keep9 k9 _ _ (k8 z o nz ez)
            · cases k' with
              | zero => exact .inl rfl
              | succ k'' =>
                obtain ⟨_, c2, h1, h2⟩ := lf.succ x k'' hxk
                exact .inr ⟨k'', c2, by omega, h1, h2⟩
            · refine ⟨?_, pre ++ [x], by rw [epre]; rfl, fun l hl => ?_⟩
              · rw [List.length_append]
                show ((ww.length + 1 : Nat) : Int) + ((k' : Int) - 1) ≤ 100
                omega
              · rw [List.append_assoc]
                refine lead _ (.go hpx hxk (fun y h1 h2 => ?_) hl)
                have z := lem (y : Int) (iN_mem.mpr (toF y (succs_mem.mpr h1) h2))
                omega
            · show ((k' : Int) - 1 + 1).toNat < ((k' : Int) + 1).toNat
              omega
      · rintro σ H' Q1 Q2 hQ ⟨v, e, i, j, e1, e2, b, e3, q1⟩
        exact ⟨v, e, i, j, e1, e2, b, e3, hQ _ _ q1⟩
theorem DueLL.valid {K : PySem.W.Frag} {ca : Str → Addr} {H : Hp} {E : XK} {C : Chart} {U S : List Nat} {ok : Chart → List Nat → List Nat → Prop} (o : C.Ok) (inU : ∀ x ∈ U, x < C.n) (upU : U.Pairwise (· < ·)) (inS : ∀ x ∈ S, x < C.n) (upS : S.Pairwise (· < ·)) (q : ok C U S) : DueLL K ca H E (chartD C) (lotD U) (lotD S) ok := by
  refine ⟨fun x i h => ?_, fun C' e _ => ⟨fun h => ?_, fun U' S' e1 e2 _ _ _ _ => ?_⟩⟩
  · rw [mapErr_chart o] at h
    cases h
  · rw [← chartD_inj e, lotOk_lot upU inU, lotOk_lot upS inS] at h
    rcases h with h | h <;> cases h
  · rw [← chartD_inj e, ← lotD_inj e1, ← lotD_inj e2]
    exact q
def sp_missed (K : PySem.W.Frag) : Sp := fun vs H Q _ => ∃ (c tr lo : Addr) (C : Chart) (U S : List Nat), vs = [.ref c, .ref tr, .ref lo] ∧ IsChart K H c C ∧ C.Ok ∧ SqT K H tr (U.map vN) ∧ (∀ x ∈ U, x < C.n) ∧ U.Pairwise (· < ·) ∧ SqT K H lo (S.map vN) ∧ (∀ x ∈ S, x < C.n) ∧ S.Pairwise (· < ·) ∧
  ∀ v L H', Same H H' → Left C.n C.roads C.wished U L → (¬ Starts C.roads S L → v = .non) → (Starts C.roads S L → ∃ t wk, v = .ref t ∧ SqT K H' t (wk.map vN) ∧ Best C.roads S L wk) → Q v H'
theorem calv_missed (c_missed : CalX P w K mg base 6 "missed" (spX_missed K ca)) : Cal P w K mg base 6 "missed" (sp_missed K) :=
  c_missed.valid fun vs H Q E ⟨c, tr, lo, C, U, S, e, isC, ok, hT, inU, upU, hS, inS, upS, q⟩ => ⟨_, _, _, _, _, _, e, dp_chart isC, dp_lot hT, dp_lot hS, .valid ok inU upU inS upS q⟩
end
end Ft

set_option Elab.async false
set_option linter.all false
set_option maxRecDepth 100000
set_option maxHeartbeats 8000000
namespace Ft
open PySem PySem.Spec PyProof.Rows L2
section
variable {P : Program} {w : World} {K : PySem.W.Frag} {mg : Str → Option Value} {base : Heap} {ca : Str → Addr}
/-! ### cuts -/
def spX_cuts (K : PySem.W.Frag) (ca : Str → Addr) : Sp := fun vs H Q E => ∃ (vc vt vl : V) (dc dt dl : PyData), vs = [vc, vt, vl] ∧ Dp K H vc dc ∧ Dp K H vt dt ∧ Dp K H vl dl ∧ DueLL K ca H E dc dt dl fun C U S =>
  ∀ (b : Bool) L H', Same H H' → Left C.n C.roads C.wished U L → (b = true ↔ ¬ Starts C.roads S L) → Q (.bl b) H'
theorem cal_cuts (T : Txt mg) (D : Def K mg "cuts" s_cuts) (c_missed : CalX P w K mg base 6 "missed" (spX_missed K ca)) : CalX P w K mg base 7 "cuts" (spX_cuts K ca) := by
  refine calx_of D sc_cuts (fun _ _ _ _ _ _ us hl => match us, hl with | [_, _, _], _ => rfl) (fun vs H Q E h => ?_) (fun f cdv A outer s H vs Q E hr h => ?_)
  · obtain ⟨vc, vt, vl, dc, dt, dl, rfl, _⟩ := h
    rfl
  · obtain ⟨vc, vt, vl, dc, dt, dl, rfl, hdc, hdt, hdl, q1, q2⟩ := h
    refine ⟨_, (pss_one (ps_ret (pe_cmpR op_isN (pe_x (L2N.takes_of rfl rfl rfl rfl) c_missed hr (by decide) (by rfl) (pa_cons (pv 0) (pa_cons (pv 1) (pa_cons (pv 2) pa_nil)))) pe_non (nomark _)))), ?_⟩
    refine ⟨_, rfl, _, rfl, _, rfl, vc, vt, vl, dc, dt, dl, rfl, hdc, hdt, hdl, q1, fun C ec ok => ⟨(q2 C ec ok).1, fun U S e1 e2 inU upU inS upS v L H1 s1 lf h1 h2 => ⟨rfl, ?_⟩⟩⟩
    refine (q2 C ec ok).2 U S e1 e2 inU upU inS upS _ L H1 s1 lf ?_
    rw [decide_eq_true_eq]
    constructor
    · intro e st
      obtain ⟨t, _, e2, _⟩ := h2 st
      rw [e2] at e
      cases e
    · exact h1
def sp_cuts (K : PySem.W.Frag) : Sp := fun vs H Q _ => ∃ (c tr lo : Addr) (C : Chart) (U S : List Nat), vs = [.ref c, .ref tr, .ref lo] ∧ IsChart K H c C ∧ C.Ok ∧ SqT K H tr (U.map vN) ∧ (∀ x ∈ U, x < C.n) ∧ U.Pairwise (· < ·) ∧ SqT K H lo (S.map vN) ∧ (∀ x ∈ S, x < C.n) ∧ S.Pairwise (· < ·) ∧
  ∀ (b : Bool) L H', Same H H' → Left C.n C.roads C.wished U L → (b = true ↔ ¬ Starts C.roads S L) → Q (.bl b) H'
theorem calv_cuts (c_cuts : CalX P w K mg base 7 "cuts" (spX_cuts K ca)) : Cal P w K mg base 7 "cuts" (sp_cuts K) :=
  c_cuts.valid fun vs H Q E ⟨c, tr, lo, C, U, S, e, isC, ok, hT, inU, upU, hS, inS, upS, q⟩ => ⟨_, _, _, _, _, _, e, dp_chart isC, dp_lot hT, dp_lot hS, .valid ok inU upU inS upS q⟩
end
end Ft

set_option Elab.async false
set_option linter.all false
set_option maxRecDepth 100000
set_option maxHeartbeats 8000000
/-! Plain mathematics: the least of the shortest missed walks, out of all walks level by level -/
namespace Ft
open PySem PySem.Spec PyProof.Rows L2
/-- the roads that make a walk longer -/
def extR (rs : List (Nat × Nat)) (T : List Nat) (w : List Nat) : List (Nat × Nat) := rs.filter fun p => decide (some p.1 = w.getLast?) && (!decide (p.2 ∈ T) && !decide (p.2 ∈ w.tail))
def extW (rs : List (Nat × Nat)) (T : List Nat) (w : List Nat) : List (List Nat) := (extR rs T w).map fun p => w ++ [p.2]
def lvW (rs : List (Nat × Nat)) (T S : List Nat) : Nat → List (List Nat)
  | 0 => S.map fun p => [p]
  | k + 1 => (lvW rs T S k).flatMap (extW rs T)
/-- from p on, roads to the places in l -/
inductive Hops (rs : List (Nat × Nat)) : Nat → List Nat → Prop
  | nil (p : Nat) : Hops rs p []
  | cons {p x : Nat} {l : List Nat} : (p, x) ∈ rs → Hops rs x l → Hops rs p (x :: l)
theorem hops_app {rs : List (Nat × Nat)} : ∀ {l : List Nat} {p y : Nat}, Hops rs p l → (l.getLastD p, y) ∈ rs → Hops rs p (l ++ [y])
  | [], p, y, _, h => .cons h (.nil _)
  | x :: l, p, y, .cons h1 h2, h => .cons h1 (hops_app h2 (by rwa [List.getLastD_cons] at h))
theorem hops_init {rs : List (Nat × Nat)} : ∀ {l : List Nat} {p y : Nat}, Hops rs p (l ++ [y]) → Hops rs p l ∧ (l.getLastD p, y) ∈ rs
  | [], p, y, h => by
    cases h with
    | cons h1 h2 => exact ⟨.nil _, h1⟩
  | x :: l, p, y, h => by
    cases h with
    | cons h1 h2 =>
      obtain ⟨h3, h4⟩ := hops_init h2
      exact ⟨.cons h1 h3, by rw [List.getLastD_cons]; exact h4⟩
theorem last_cons (a : Nat) (l : List Nat) : (a :: l).getLast? = some (l.getLastD a) := by
  rw [List.getLast?_cons, List.getLastD_eq_getLast?]
theorem lvW_mem {rs : List (Nat × Nat)} {T S : List Nat} : ∀ {k : Nat} {w : List Nat}, w ∈ lvW rs T S k ↔ ∃ a l, w = a :: l ∧ a ∈ S ∧ l.length = k ∧ Hops rs a l ∧ (∀ x ∈ l, x ∉ T) ∧ l.Nodup
  | 0, w => by
    unfold lvW
    rw [List.mem_map]
    constructor
    · rintro ⟨a, ha, rfl⟩
      exact ⟨a, [], rfl, ha, rfl, .nil _, (fun _ h => nomatch h), List.nodup_nil⟩
    · rintro ⟨a, l, rfl, ha, hl, _⟩
      exact ⟨a, ha, by rw [List.length_eq_zero_iff.mp hl]⟩
  | k + 1, w => by
    unfold lvW
    rw [List.mem_flatMap]
    constructor
    · rintro ⟨v, hv, hw⟩
      obtain ⟨a, l, rfl, ha, hl, hh, ht, hn⟩ := lvW_mem.mp hv
      unfold extW at hw
      obtain ⟨p, hp, rfl⟩ := List.mem_map.mp hw
      unfold extR at hp
      rw [List.mem_filter] at hp
      simp only [Bool.and_eq_true, decide_eq_true_eq, Bool.not_eq_true', decide_eq_false_iff_not, last_cons, List.tail_cons, Option.some.injEq] at hp
      have hp4 : ¬ p.2 ∈ l := of_decide_eq_false hp.2.2.2
      obtain ⟨h1, h2, h3, h4⟩ := hp
      refine ⟨a, l ++ [p.2], rfl, ha, by rw [List.length_append, hl]; rfl, hops_app hh (by rw [← h2]; exact h1), fun x hx => ?_, ?_⟩
      · rcases List.mem_append.mp hx with hx | hx
        · exact ht x hx
        · rw [List.mem_singleton.mp hx]
          exact h3
      · rw [List.nodup_append]
        exact ⟨hn, by simp, fun x hx y hy e => hp4 (by rw [List.mem_singleton.mp hy] at e; exact e ▸ hx)⟩
    · rintro ⟨a, l, rfl, ha, hl, hh, ht, hn⟩
      have hne : l ≠ [] := by
        intro e
        rw [e] at hl
        cases hl
      obtain ⟨m, y, rfl⟩ : ∃ m y, l = m ++ [y] := ⟨l.dropLast, l.getLast hne, (List.dropLast_concat_getLast hne).symm⟩
      obtain ⟨h1, h2⟩ := hops_init hh
      rw [List.nodup_append] at hn
      refine ⟨a :: m, lvW_mem.mpr ⟨a, m, rfl, ha, by rw [List.length_append] at hl; exact Nat.succ.inj hl, h1, fun x hx => ht x (List.mem_append_left _ hx), hn.1⟩, ?_⟩
      unfold extW
      refine List.mem_map.mpr ⟨(m.getLastD a, y), ?_, rfl⟩
      unfold extR
      rw [List.mem_filter]
      rw [Bool.and_eq_true, Bool.and_eq_true, Bool.not_eq_true', Bool.not_eq_true', decide_eq_true_eq, decide_eq_false_iff_not, decide_eq_false_iff_not, last_cons, List.tail_cons]
      exact ⟨h2, rfl, ht y (List.mem_append_right _ List.mem_cons_self), fun hy => hn.2.2 y hy y List.mem_cons_self rfl⟩
/-- the walks of a level that end at a wished place -/
def endW (ws : List Nat) (W : List (List Nat)) : List (List Nat) := W.filter fun w => match w.getLast? with
  | some x => decide (x ∈ ws)
  | none => false
theorem hops_label {n : Nat} {rs : List (Nat × Nat)} {ws T : List Nat} {L : List (Nat × Nat)} (lf : Left n rs ws T L) : ∀ {l : List Nat} {b : Nat}, Hops rs b l → b ∉ T → (∀ x ∈ l, x ∉ T) → l.getLastD b ∈ ws → ∃ k, k ≤ l.length ∧ (b, k) ∈ L
  | [], b, _, hb, _, hw => ⟨0, Nat.le_refl _, (lf.zero b).mpr ⟨hw, hb⟩⟩
  | x :: l, b, .cons h1 h2, hb, ht, hw => by
    rw [List.getLastD_cons] at hw
    obtain ⟨k, h3, h4⟩ := hops_label lf h2 (ht x List.mem_cons_self) (fun y hy => ht y (List.mem_cons_of_mem _ hy)) hw
    by_cases hbw : b ∈ ws
    · exact ⟨0, Nat.zero_le _, (lf.zero b).mpr ⟨hbw, hb⟩⟩
    · obtain ⟨j, h5, h6⟩ := lf.near b x k h1 hbw hb h4
      exact ⟨j, by rw [List.length_cons]; omega, h6⟩
theorem leads_facts {n : Nat} {rs : List (Nat × Nat)} {ws T : List Nat} {L : List (Nat × Nat)} (lf : Left n rs ws T L) : ∀ {l : List Nat} {p : Nat} {k : Int}, Leads rs L p k l → -1 ≤ k → (l.length : Int) = k + 1 ∧ Hops rs p l ∧ (∀ x ∈ l, ∃ j : Nat, (j : Int) ≤ k ∧ (x, j) ∈ L) ∧ l.Nodup ∧ (l ≠ [] → l.getLastD p ∈ ws)
  | [], p, k, h, hk => by
    cases h with
    | stop => exact ⟨rfl, .nil _, (fun _ h => nomatch h), List.nodup_nil, fun h => absurd rfl h⟩
  | x :: l, p, k, h, hk => by
    cases h with
    | @go _ k' _ _ h1 h2 h3 h4 =>
      obtain ⟨a1, a2, a3, a4, a5⟩ := leads_facts lf h4 (by omega)
      refine ⟨by rw [List.length_cons]; omega, .cons h1 a2, fun y hy => ?_, List.nodup_cons.mpr ⟨fun m => ?_, a4⟩, fun _ => ?_⟩
      · rcases List.mem_cons.mp hy with e | hy
        · exact ⟨k', Int.le_refl _, e ▸ h2⟩
        · obtain ⟨j, b1, b2⟩ := a3 y hy
          exact ⟨j, by omega, b2⟩
      · obtain ⟨j, b1, b2⟩ := a3 x m
        have := lf.one h2 b2
        omega
      · rw [List.getLastD_cons]
        cases l with
        | nil =>
          have e0 : k' = 0 := by
            have : ((0 : Nat) : Int) = (k' : Int) - 1 + 1 := a1
            omega
          rw [e0] at h2
          exact ((lf.zero x).mp h2).1
        | cons y l => exact a5 (by simp)
theorem lex_cons_le {a b : Nat} {l m : List Nat} (h : a ≤ b) (h2 : a = b → iN l ≤ iN m) : iN (a :: l) ≤ iN (b :: m) := by
  show ((a : Int) :: iN l) ≤ ((b : Int) :: iN m)
  rw [List.cons_le_cons_iff]
  rcases Nat.lt_or_eq_of_le h with h | h
  · exact .inl (by omega)
  · exact .inr ⟨by rw [h], h2 h⟩
theorem leads_least {n : Nat} {rs : List (Nat × Nat)} {ws T : List Nat} {L : List (Nat × Nat)} (lf : Left n rs ws T L) : ∀ {l m : List Nat} {p : Nat} {k : Int}, Leads rs L p k l → l.length = m.length → (∀ y j, (p, y) ∈ rs → (y, j) ∈ L → k ≤ (j : Int)) → Hops rs p m → (∀ x ∈ m, x ∉ T) → (m ≠ [] → m.getLastD p ∈ ws) → -1 ≤ k → iN l ≤ iN m
  | [], m, p, k, h, hl, _, _, _, _, _ => by
    have : m = [] := List.length_eq_zero_iff.mp hl.symm
    rw [this]
    exact List.le_refl _
  | x :: l, [], p, k, h, hl, _, _, _, _, _ => by cases hl
  | x :: l, y :: m, p, k, h, hl, low, hm, ht, hw, hk => by
    have len := (leads_facts lf h hk).1
    cases h with
    | @go _ k' _ _ h1 h2 h3 h4 =>
      cases hm with
      | cons g1 g2 =>
        have hw' := hw (by simp)
        rw [List.getLastD_cons] at hw'
        obtain ⟨j, j1, j2⟩ := hops_label lf g2 (ht y List.mem_cons_self) (fun z hz => ht z (List.mem_cons_of_mem _ hz)) hw'
        have := low y j g1 j2
        have e : j = k' := by
          rw [List.length_cons] at len hl
          simp only [List.length_cons] at hl
          omega
        rw [e] at j2
        refine lex_cons_le (h3 y g1 j2) fun exy => ?_
        subst exy
        refine leads_least lf h4 (by simpa using hl) (fun z i r1 r2 => ?_) g2 (fun z hz => ht z (List.mem_cons_of_mem _ hz)) (fun _ => hw') (by omega)
        cases hk' : k' with
        | zero => omega
        | succ k'' =>
          rw [hk'] at h2
          obtain ⟨nw, _⟩ := lf.succ x k'' h2
          obtain ⟨i', i1, i2⟩ := lf.near x z i r1 nw (lf.lt _ h2).2 r2
          have := lf.one i2 h2
          omega
/-- what the levels tell -/
theorem endW_mem {ws : List Nat} {W : List (List Nat)} {a : Nat} {l : List Nat} : (a :: l) ∈ endW ws W ↔ (a :: l) ∈ W ∧ l.getLastD a ∈ ws := by
  unfold endW
  rw [List.mem_filter]
  simp only [last_cons, decide_eq_true_eq]
theorem ended_starts {n : Nat} {rs : List (Nat × Nat)} {ws T S : List Nat} {L : List (Nat × Nat)} (lf : Left n rs ws T L) {k : Nat} {w : List Nat} (h : w ∈ endW ws (lvW rs T S (k + 1))) : ∃ a ∈ S, ∃ b j, (a, b) ∈ rs ∧ (b, j) ∈ L ∧ j ≤ k ∧ w.head? = some a := by
  have hw : w ∈ lvW rs T S (k + 1) := by
    unfold endW at h
    exact (List.mem_filter.mp h).1
  obtain ⟨a, l, rfl, ha, hl, hh, ht, hn⟩ := lvW_mem.mp hw
  have hl' := (endW_mem.mp h).2
  cases l with
  | nil => cases hl
  | cons b l =>
    cases hh with
    | cons h1 h2 =>
      rw [List.getLastD_cons] at hl'
      obtain ⟨j, j1, j2⟩ := hops_label lf h2 (ht b List.mem_cons_self) (fun z hz => ht z (List.mem_cons_of_mem _ hz)) hl'
      rw [List.length_cons] at hl
      exact ⟨a, ha, b, j, h1, j2, by omega, rfl⟩
theorem none_ended {n : Nat} {rs : List (Nat × Nat)} {ws T S : List Nat} {L : List (Nat × Nat)} (lf : Left n rs ws T L) (h : ¬ Starts rs S L) (k : Nat) : endW ws (lvW rs T S (k + 1)) = [] := by
  cases e : endW ws (lvW rs T S (k + 1)) with
  | nil => rfl
  | cons w W =>
    obtain ⟨a, ha, b, j, h1, h2, _⟩ := ended_starts lf (w := w) (k := k) (S := S) (by rw [e]; exact List.mem_cons_self)
    exact absurd ⟨a, ha, b, j, h1, h2⟩ h
theorem best_ended {n : Nat} {rs : List (Nat × Nat)} {ws T S : List Nat} {L : List (Nat × Nat)} (lf : Left n rs ws T L) {wk : List Nat} (h : Best rs S L wk) : ∃ k, k < n ∧ (∀ j, j < k → endW ws (lvW rs T S (j + 1)) = []) ∧ wk ∈ endW ws (lvW rs T S (k + 1)) ∧ ∀ w ∈ endW ws (lvW rs T S (k + 1)), iN wk ≤ iN w := by
  obtain ⟨k, a, l, rfl, ha, ⟨b, hab, hbk⟩, least, ld⟩ := h
  obtain ⟨f1, f2, f3, f4, f5⟩ := leads_facts lf ld (by omega)
  have hne : l ≠ [] := by
    intro e
    rw [e] at f1
    have : ((0 : Nat) : Int) = (k : Int) + 1 := f1
    omega
  have hl : l.length = k + 1 := by omega
  have hT : ∀ x ∈ l, x ∉ T := fun x hx => by
    obtain ⟨j, _, hj⟩ := f3 x hx
    exact (lf.lt _ hj).2
  have inl : (a :: l) ∈ endW ws (lvW rs T S (k + 1)) := endW_mem.mpr ⟨lvW_mem.mpr ⟨a, l, rfl, ha, hl, f2, hT, f4⟩, f5 hne⟩
  refine ⟨k, lf.many k b hbk, fun j hj => ?_, inl, fun w hw => ?_⟩
  · cases e : endW ws (lvW rs T S (j + 1)) with
    | nil => rfl
    | cons w W =>
      obtain ⟨a', ha', b', j', h1, h2, h3, _⟩ := ended_starts lf (w := w) (k := j) (S := S) (by rw [e]; exact List.mem_cons_self)
      have := least a' b' j' ha' h1 h2
      omega
  · have hw0 : w ∈ lvW rs T S (k + 1) := by
      unfold endW at hw
      exact (List.mem_filter.mp hw).1
    obtain ⟨a', m, rfl, ha', hm, hh, ht, hn⟩ := lvW_mem.mp hw0
    have hlast := (endW_mem.mp hw).2
    cases m with
    | nil => cases hm
    | cons b' m =>
      have hh' := hh
      cases hh with
      | cons h1 h2 =>
        have hlast' := hlast
        rw [List.getLastD_cons] at hlast
        obtain ⟨j, j1, j2⟩ := hops_label lf h2 (ht b' List.mem_cons_self) (fun z hz => ht z (List.mem_cons_of_mem _ hz)) hlast
        rw [List.length_cons] at hm
        have q := least a' b' j ha' h1 j2
        have ea : a ≤ a' := by omega
        refine lex_cons_le ea fun e => ?_
        subst e
        refine leads_least lf ld (by rw [hl, List.length_cons, hm]) (fun y i r1 r2 => ?_) hh' ht (fun _ => hlast') (by omega)
        have := least a y i ha' r1 r2
        omega
/-! ### how many walks -/
theorem extW_len {n : Nat} {rs : List (Nat × Nat)} {T w : List Nat} (upR : rs.Pairwise ltP) (inR : ∀ p ∈ rs, p.1 < n ∧ p.2 < n) : (extW rs T w).length ≤ n := by
  unfold extW
  rw [List.length_map]
  have up : (extR rs T w).Pairwise ltP := upR.filter _
  have one : ∀ p ∈ extR rs T w, some p.1 = w.getLast? := fun p hp => by
    unfold extR at hp
    rw [List.mem_filter] at hp
    simp only [Bool.and_eq_true, decide_eq_true_eq] at hp
    exact hp.2.1
  have inn : ∀ p ∈ extR rs T w, p.2 < n := fun p hp => (inR p (List.mem_filter.mp hp).1).2
  have up2 : ((extR rs T w).map (·.2)).Pairwise (· < ·) := by
    rw [List.pairwise_map]
    refine up.imp_of_mem fun {p q} hp hq h => ?_
    have e : p.1 = q.1 := Option.some.inj ((one p hp).trans (one q hq).symm)
    rcases h with h | h
    · omega
    · exact h.2
  have := up_len up2 fun x hx => by
    obtain ⟨p, hp, rfl⟩ := List.mem_map.mp hx
    exact inn p hp
  rwa [List.length_map] at this
theorem flat_len {α β : Type} {f : α → List β} {n : Nat} (h : ∀ x, (f x).length ≤ n) : ∀ l : List α, (l.flatMap f).length ≤ l.length * n
  | [] => by simp
  | x :: l => by
    rw [List.flatMap_cons, List.length_append, List.length_cons, Nat.succ_mul]
    have := flat_len h l
    have := h x
    omega
theorem lvW_len {n : Nat} {rs : List (Nat × Nat)} {T S : List Nat} (upR : rs.Pairwise ltP) (inR : ∀ p ∈ rs, p.1 < n ∧ p.2 < n) (n6 : n ≤ 6) (s6 : S.length ≤ 6) : ∀ k, (lvW rs T S k).length ≤ 6 ^ (k + 1)
  | 0 => by
    unfold lvW
    rw [List.length_map]
    exact s6
  | k + 1 => by
    unfold lvW
    have h1 := flat_len (f := extW rs T) (n := 6) (fun x => Nat.le_trans (extW_len upR inR) n6) (lvW rs T S k)
    have h2 := lvW_len (T := T) upR inR n6 s6 k
    rw [Nat.pow_succ]
    exact Nat.le_trans h1 (Nat.mul_le_mul_right _ h2)
end Ft

set_option Elab.async false
set_option linter.all false
set_option maxRecDepth 100000
set_option maxHeartbeats 8000000
namespace Ft
open PySem PySem.Spec PyProof.Rows L2
section
variable {P : Program} {w : World} {K : PySem.W.Frag} {mg : Str → Option Value} {base : Heap} {t1 t2 : Tok}
/-! ### piece_table -/
/-- the pieces at the addresses rows -/
def PiecesAt (K : PySem.W.Frag) (H : Hp) (C : Chart) (rows : List Addr) : Prop := rows.length = C.n ∧ ∀ x t, rows[x]? = some t → SqT K H t ((pieceOf C x).map vN)
theorem piece_filter {C : Chart} {a : Nat} (ha : a < C.n) (hw : a ∉ C.wished) : (unw C).filter (fun b => decide (a = b) || (decide (b ∈ metU C [a]) && decide (a ∈ metU C [b]))) = pieceOf C a := by
  unfold pieceOf
  rw [if_neg hw]
  refine those_is ((unw_up C).filter _) fun x => ?_
  rw [List.mem_filter, unw_mem]
  unfold metU
  simp only [Bool.or_eq_true, Bool.and_eq_true, decide_eq_true_eq, those_mem, List.mem_singleton, exists_eq_left]
  constructor
  · rintro ⟨⟨h1, h2⟩, h3⟩
    refine ⟨h1, h2, ?_⟩
    rcases h3 with e | ⟨⟨_, _, r1⟩, ⟨_, _, r2⟩⟩
    · exact .inl e.symm
    · exact .inr ⟨r1, r2⟩
  · rintro ⟨h1, h2, h3⟩
    refine ⟨⟨h1, h2⟩, ?_⟩
    rcases h3 with e | ⟨r1, r2⟩
    · exact .inl e.symm
    · exact .inr ⟨⟨h1, h2, r1⟩, ⟨ha, hw, r2⟩⟩
def sp_piece_table (K : PySem.W.Frag) : Sp := fun vs H Q _ => ∃ (c : Addr) (C : Chart), vs = [.ref c] ∧ IsChart K H c C ∧ C.Ok ∧ ∀ q rows H', Same H H' → H q = none → H' q = some (.lst (rows.map V.ref)) → PiecesAt K H' C rows → Q (.ref q) H'
end
end Ft

set_option Elab.async false
set_option linter.all false
set_option maxRecDepth 100000
set_option maxHeartbeats 4000000
/-! a set of ints by two clauses -/
namespace Ft
open PySem PySem.Spec PyProof.Rows L2
abbrev twoSet (el ta ia tb ib : Expr) (ca cb : List Expr) (sco : Scope) (at_ : Pos) : Expr := .SetComp el [⟨ta, ia, ca, 0⟩, ⟨tb, ib, cb, 0⟩] sco at_
section
variable {G : Program} {w : World} {A : Around} {Z : Result → Shared → Prop} {el ta ia tb ib : Expr} {ca cb : List Expr} {sco : Scope} {at_ : Pos} {o d : Value} {ev : Env}
/-- the tests of a clause, until one fails -/
abbrev tests (cs : List Expr) (ev : Env) : Sem Bool := forIn cs true fun c r => if r = true then (isTrue c ev (eval c ev) >>= fun z => pure (ForInStep.yield z)) else pure (ForInStep.yield r)
theorem turn_a : compTurn (twoSet el ta ia tb ib ca cb sco at_) 0 o d ev = (standAt ia.pos >>= fun _ => pyNext o >>= fun (n : Option Value) => match n with
    | none => pure (.done .next)
    | some v => letOwnedTupleGo ta o v >>= fun _ => assign ta ev v >>= fun _ => tests ca ev >>= fun z =>
      if z = true then (eval ib ev >>= fun y => standAt ib.pos >>= fun _ => foldedSetIterable ib ev y >>= fun y => holding [y] (pyIter y) >>= fun t => runOwn (.compStart (twoSet el ta ia tb ib ca cb sco at_) 1 t d ev) ev >>= fun _ => again (.compLoop (twoSet el ta ia tb ib ca cb sco at_) 0 o d ev))
      else again (.compLoop (twoSet el ta ia tb ib ca cb sco at_) 0 o d ev)) := by rfl
theorem turn_b : compTurn (twoSet el ta ia tb ib ca cb sco at_) 1 o d ev = (standAt ib.pos >>= fun _ => pyNext o >>= fun (n : Option Value) => match n with
    | none => pure (.done .next)
    | some v => letOwnedTupleGo tb o v >>= fun _ => assign tb ev v >>= fun _ => tests cb ev >>= fun z =>
      if z = true then ((eval el ev >>= fun y => standAt el.pos >>= fun _ => call (.builtin "set.add") [d, y] >>= fun _ => pure ()) >>= fun _ => again (.compLoop (twoSet el ta ia tb ib ca cb sco at_) 1 o d ev))
      else again (.compLoop (twoSet el ta ia tb ib ca cb sco at_) 1 o d ev)) := by rfl
/-- what a raised thing asks -/
abbrev out_ (G : Program) (w : World) (A : Around) (ev : Env) (Z : Result → Shared → Prop) : Value → Shared → Prop := notedBy (model G w) A ev fun x t => Z (.error x) t
theorem loop_b {s : Shared} (I : Nat → Shared → Prop)
    (step : ∀ k s, I k s → wpAny (model G w) A (pyNext o) (fun n s1 => match n with
      | none => Z (.ok .next) s1
      | some v => wpAny (model G w) A (letOwnedTupleGo tb o v) (fun _ s2 => wpAny (model G w) A (assign tb ev v) (fun _ s3 => wpAny (model G w) A (tests cb ev) (fun z s4 =>
          if z = true then wpAny (model G w) A (eval el ev) (fun y s5 => wpAny (model G w) A (call (.builtin "set.add") [d, y]) (fun _ s6 => ∃ j, j < k ∧ I j s6) (out_ G w A ev Z) s5) (out_ G w A ev Z) s4
          else ∃ j, j < k ∧ I j s4) (out_ G w A ev Z) s3) (out_ G w A ev Z) s2) (out_ G w A ev Z) s1) (out_ G w A ev Z) s)
    (k : Nat) (h : I k s) : codeAny (model G w) A (.compLoop (twoSet el ta ia tb ib ca cb sco at_) 1 o d ev) Z s := by
  refine codeAny_loop rfl I (fun k s hI => ?_) k h
  show wpAny _ A ((compTurn (twoSet el ta ia tb ib ca cb sco at_) 1 o d ev).onRaise (fun x => noteFrame x ev >>= fun _ => theTreesLotGoes x)) _ _ s
  refine wpAny_noted ?_
  rw [turn_b]
  refine wpAny_bind (wpAny_standAt (wpAny_bind (wpAny_mono (step k s hI) (fun n s1 q1 => ?_) fun _ _ x => x)))
  cases n with
  | none => exact wpAny_pure q1
  | some v =>
    refine wpAny_bind (wpAny_mono q1 (fun _ s2 q2 => wpAny_bind (wpAny_mono q2 (fun _ s3 q3 => wpAny_bind (wpAny_mono q3 (fun z s4 q4 => ?_) fun _ _ x => x)) fun _ _ x => x)) fun _ _ x => x)
    cases z with
    | false => exact wpAny_pure ⟨rfl, q4⟩
    | true => exact wpAny_bind (wpAny_bind (wpAny_mono q4 (fun y s5 q5 => wpAny_bind (wpAny_standAt (wpAny_bind (wpAny_mono q5 (fun _ s6 q6 => wpAny_pure (wpAny_pure ⟨rfl, q6⟩)) fun _ _ x => x)))) fun _ _ x => x))
theorem loop_a {s : Shared} (same : ∀ y, foldedSetIterable ib ev y = pure y) (I : Nat → Shared → Prop)
    (step : ∀ k s, I k s → wpAny (model G w) A (pyNext o) (fun n s1 => match n with
      | none => Z (.ok .next) s1
      | some v => wpAny (model G w) A (letOwnedTupleGo ta o v) (fun _ s2 => wpAny (model G w) A (assign ta ev v) (fun _ s3 => wpAny (model G w) A (tests ca ev) (fun z s4 =>
          if z = true then wpAny (model G w) A (eval ib ev) (fun y s5 => wpAny (model G w) A (pyIter y) (fun t s6 => codeAny (model G w) A (.compStart (twoSet el ta ia tb ib ca cb sco at_) 1 t d ev) (fun r s7 => match r with
            | .ok _ => ∃ j, j < k ∧ I j s7
            | .error _ => False) s6) (out_ G w A ev Z) s5) (out_ G w A ev Z) s4
          else ∃ j, j < k ∧ I j s4) (out_ G w A ev Z) s3) (out_ G w A ev Z) s2) (out_ G w A ev Z) s1) (out_ G w A ev Z) s)
    (k : Nat) (h : I k s) : codeAny (model G w) A (.compLoop (twoSet el ta ia tb ib ca cb sco at_) 0 o d ev) Z s := by
  refine codeAny_loop rfl I (fun k s hI => ?_) k h
  show wpAny _ A ((compTurn (twoSet el ta ia tb ib ca cb sco at_) 0 o d ev).onRaise (fun x => noteFrame x ev >>= fun _ => theTreesLotGoes x)) _ _ s
  refine wpAny_noted ?_
  rw [turn_a]
  refine wpAny_bind (wpAny_standAt (wpAny_bind (wpAny_mono (step k s hI) (fun n s1 q1 => ?_) fun _ _ x => x)))
  cases n with
  | none => exact wpAny_pure q1
  | some v =>
    refine wpAny_bind (wpAny_mono q1 (fun _ s2 q2 => wpAny_bind (wpAny_mono q2 (fun _ s3 q3 => wpAny_bind (wpAny_mono q3 (fun z s4 q4 => ?_) fun _ _ x => x)) fun _ _ x => x)) fun _ _ x => x)
    cases z with
    | false => exact wpAny_pure ⟨rfl, q4⟩
    | true =>
      refine wpAny_bind (wpAny_mono q4 (fun y s5 q5 => wpAny_bind (wpAny_standAt (wpAny_bind (wpAny_of_eq (same y) (wpAny_bind (wpAny_holding (wpAny_mono q5 (fun t s6 q6 => wpAny_bind (wpAny_runOwn ?_)) fun _ _ x => x)))))))  fun _ _ x => x)
      rw [Around.mark_none]
      refine codeAny_mono q6 fun r s7 q7 => ?_
      cases r with
      | error _ => exact q7.elim
      | ok _ =>
        first
          | exact wpAny_pure ⟨rfl, q7⟩
          | exact wpAny_bind (wpAny_pure (wpAny_pure ⟨rfl, q7⟩))
theorem start_b {s : Shared} (go : codeAny (model G w) A (.compLoop (twoSet el ta ia tb ib ca cb sco at_) 1 o d ev) Z s)
    (go2 : wpAny (model G w) A (pyIter o) (fun t s1 => codeAny (model G w) A (.compLoop (twoSet el ta ia tb ib ca cb sco at_) 1 t d ev) Z s1) (out_ G w A ev Z) s) :
    codeAny (model G w) A (.compStart (twoSet el ta ia tb ib ca cb sco at_) 1 o d ev) Z s := by
  refine codeAny_of_tree ?_
  show wpAny _ _ ((compStart (twoSet el ta ia tb ib ca cb sco at_) 1 o d ev).onRaise (fun x => noteFrame x ev >>= fun _ => standAt theWindowsPlace)) _ _ s
  refine wpAny_notedAt ?_
  unfold compStart
  show wpAny _ _ (ask >>= _) _ _ s
  refine wpAny_bind (wpAny_askSetting (wpAny_ite ?_))
  split
  case isTrue =>
    first
      | exact wpAny_pure (And.intro rfl go)
      | exact wpAny_bind (wpAny_pure (wpAny_pure (And.intro rfl go)))
  case isFalse =>
    refine wpAny_bind (wpAny_rule (wpAny_bind ?_))
    show wpAny _ _ (standAt ib.pos) _ _ s
    exact wpAny_standAt (wpAny_bind (wpAny_mono go2 (fun t s1 q => wpAny_pure (And.intro rfl q)) fun _ _ x => x))
end
end Ft

set_option Elab.async false
set_option linter.all false
set_option maxRecDepth 100000
set_option maxHeartbeats 4000000
namespace Ft
open PySem PySem.Spec PyProof.Rows L2
theorem put_ok {X : Cx} {pins : List (Addr × Obj)} {σ : L2.St} {H : Hp} {s : Shared} {E : Value → Shared → Prop} {D : Addr} {S : Int → Bool} {n : Nat} {k : Int} {tk : Tok} {Q : Value → Shared → Prop} (I : Inv X pins σ H s) (hD : H D = some (SetO X.w D S n)) (room : n + 1 < scanBound)
    (go : ∀ t, Inv X pins σ (upd H D (SetO X.w D (fun j => S j || decide (j = k)) (if S k = true then n else n + 1))) t → Q .none t) : wpAny (model X.prog X.w) X.A (call (.builtin "set.add") [.ref D, .int k tk]) Q E s := by
  refine setR_add (setO_get I hD) room fun h' sb new => go _ ?_
  obtain ⟨u, _, _, _, hu, _⟩ := id new
  exact I.write (e := D) (t' := s.toks + 1) (by rw [hD]; trivial) (.inl rfl) (fun b x hb hx => (sb.2 b hb).trans hx) ⟨u, hu⟩ (setO_new new)
/-- {el for ta in ia if .. for tb in ib if ..}, ints: D the new set -/
def tSet2 (w : World) (wi : TI) (ga : TG) (tca : TT) (wj : TI) (gb : TG) (tcb : TT) (te : TE) (all inn : List Nat) : TE := fun σ H Q => wi σ H fun J Ha => ∀ D, Ha D = none → ∃ W : Nat → Nat → Hp → Prop, (∃ m, W 0 m (upd Ha D (SetO w D (fun _ => false) 0))) ∧ ∀ i m Hb, W i m Hb →
  (J.stop i Hb ∧ Q (.ref D) Hb) ∨ (J.go i Hb ∧ ∃ N : Hp → Prop, (∀ Hc, N Hc → ∃ m', m' < m ∧ W (i + 1) m' Hc) ∧ ∀ x Hc, J.yld i Hb x Hc → ga x (wipe σ all) Hc fun σa Hd => wipe σa all = wipe σ all ∧ tca σa Hd fun z He =>
    if z = true then wj σa He fun K1 Hf => ∃ U : Nat → Nat → Hp → Prop, (∃ m, U 0 m Hf) ∧ ∀ j k Hg, U j k Hg →
      (K1.stop j Hg ∧ N Hg) ∨ (K1.go j Hg ∧ ∃ M : Hp → Prop, (∀ Hh, M Hh → ∃ k', k' < k ∧ U (j + 1) k' Hh) ∧ ∀ y Hh, K1.yld j Hg y Hh → gb y (wipe σa inn) Hh fun σb Hi => wipe σb inn = wipe σa inn ∧ tcb σb Hi fun z Hj =>
        if z = true then te σb Hj fun v Hk => ∃ (c : Int) (S : Int → Bool) (n : Nat), v = .int c ∧ Hk D = some (SetO w D S n) ∧ n + 1 < scanBound ∧ M (upd Hk D (SetO w D (fun j => S j || decide (j = c)) (if S c = true then n else n + 1))) else M Hj)
    else N He)
section
variable {X : Cx}
abbrev InBlk (X : Cx) (sco : Scope) (P : Cx → Prop) : Prop := ∀ (s : Shared) (H : Hp) (C : Addr) (cl : List (Str × Addr)) (fp : List Addr), P (X.blk s H sco (compEnvC sco cl C X.env) fp)
theorem set2_core {pins : List (Addr × Obj)} {s : Shared} {σ : L2.St} {H : Hp} {Q : VK} {el ta ia tb ib : Expr} {ca cb : List Expr} {sco : Scope} {own : List (Str × Nat)} {inn : List Nat} {at_ at2 : Pos} {wi wj : TI} {ga gb : TG} {tca tcb : TT} {te : TE} {use : Option (Value → Sem Unit)} {Qf : Value → Shared → Prop}
    (calm : X.calm = true) (nd : X.N.Nodup) (I : Inv X pins σ H s) (pi : PI X ta ia wi) (ok : BlkOk X.N X.env.scope sco own) (sub : ∀ i ∈ inn, i ∈ own.map (·.2)) (pga : InBlk X sco fun Y => PG Y ta ga) (pta : InBlk X sco fun Y => PTs Y ca tca) (pib : InBlk X sco fun Y => PI Y tb ib wj) (pgb : InBlk X sco fun Y => PG Y tb gb) (ptb : InBlk X sco fun Y => PTs Y cb tcb)
    (pel : InBlk X sco fun Y => PE Y el te) (fa : ∀ x, foldedSetIterable ia X.env x = pure x) (fb : ∀ env x, foldedSetIterable ib env x = pure x) (h : tSet2 X.w wi ga tca wj gb tcb te (own.map (·.2)) inn σ H Q)
    (back : ∀ D C t m Ht, Inv X pins σ Ht t → Q (.ref D) Ht → t.heap.Ns C m → FpOk X pins Ht C → compPost (model X.prog X.w) X.A X.xe use Qf (.ref D) C (.ok .next) t) :
    wpAny (model X.prog X.w) X.A (comprehension (twoSet el ta ia tb ib ca cb sco at_) sco X.env at2 (newSet (.type "set")) false (eval ia X.env) use) Qf X.xe s := by
  have cells : ∀ y ∈ sco.names, y.2 = .free → ∃ c, X.env.cells.lookup y.1 = some c := fun y hy e => (ok.free y hy e).elim (fun k => I.ok.has _ (.inl k)) (fun k => I.ok.has _ (.inr k))
  refine wpAny_comprehension_free (use := use) rfl fa (closure_ok cells) ok.kind (fun y hy e => by rw [ok.uniq y hy, e]) (thn (pi.run pins s σ H _ I h) fun xv s1 hx => thn hx fun itv s2 h2 => ?_)
  obtain ⟨it, fp, tn, J, Ha, e, Ia, T, sta, fpa, q⟩ := h2
  subst e
  refine PpSet.newSet_ok (newEnv_comp ?_)
  obtain ⟨D, eD⟩ : ∃ D, s2.heap.objs.size = D := ⟨_, rfl⟩
  have free : Ha D = none := Ia.hok.fresh (Nat.le_of_eq eD)
  obtain ⟨W, ⟨m0, w0⟩, turn⟩ := q D free
  obtain ⟨s3, es3⟩ : ∃ s3 : Shared, ({ s2 with heap := s2.heap.push { cls := .type "set", dict := none, data := .set #[] 0 (.fresh 0 0 (!X.w.params.followText "set-order")) } } : Shared) = s3 := ⟨_, rfl⟩
  have I3 : Inv X pins σ (upd Ha D (SetO X.w D (fun _ => false) 0)) s3 := by
    subst es3 eD
    exact Ia.laid (t' := s2.toks) (fun b o e => Heap.get?_push_of_some _ e) (Nat.le_refl _) (setO_new (setR_fresh X.w))
  have push3 : s3.heap = s2.heap.push { cls := .type "set", dict := none, data := .set #[] 0 (.fresh 0 0 (!X.w.params.followText "set-order")) } := by rw [← es3]
  have below : ∀ b ∈ fp, b < s2.heap.objs.size := fun b hb => by
    obtain ⟨_, e, _⟩ := T.obj _ _ sta b hb
    exact Heap.lt_size e
  have fp3 : ∀ b ∈ fp, FpOk X pins (upd Ha D (SetO X.w D (fun _ => false) 0)) b ∧ b < s3.heap.objs.size := fun b hb => by
    have lt := below b hb
    refine ⟨⟨by rw [upd_ne (by rw [← eD]; exact Nat.ne_of_lt lt)]; exact (fpa b hb).1, (fpa b hb).2⟩, ?_⟩
    rw [push3, Heap.size_push]
    exact Nat.lt_succ_of_lt lt
  have st3 : tn 0 s3.heap := T.keep _ _ _ sta fun b _ o e => by rw [push3]; exact Heap.get?_push_of_some _ e
  have I4 := block_start I3 ok nd fp3
  obtain ⟨cl, ecl⟩ : ∃ cl, cellsFrom (s3.heap.objs.size + 1) sco.names (cloFrom X.env.cells sco.names []) = cl := ⟨_, rfl⟩
  rw [ecl] at I4
  have pga := pga s3 (upd Ha D (SetO X.w D (fun _ => false) 0)) s3.heap.objs.size cl fp
  have pta := pta s3 (upd Ha D (SetO X.w D (fun _ => false) 0)) s3.heap.objs.size cl fp
  have pib := pib s3 (upd Ha D (SetO X.w D (fun _ => false) 0)) s3.heap.objs.size cl fp
  have pgb := pgb s3 (upd Ha D (SetO X.w D (fun _ => false) 0)) s3.heap.objs.size cl fp
  have ptb := ptb s3 (upd Ha D (SetO X.w D (fun _ => false) 0)) s3.heap.objs.size cl fp
  have pel := pel s3 (upd Ha D (SetO X.w D (fun _ => false) 0)) s3.heap.objs.size cl fp
  have none3 : ∀ b ∈ fp, (upd Ha D (SetO X.w D (fun _ => false) 0)) b = none := fun b hb => (fp3 b hb).1.1
  rw [eD, es3, ecl]
  obtain ⟨ev, eev⟩ : ∃ ev, compEnvC sco cl s3.heap.objs.size X.env = ev := ⟨_, rfl⟩
  have loc : ev.locals = s3.heap.objs.size := by
    subst eev
    rfl
  rw [eev] at I4 pga pta pib pgb ptb pel
  obtain ⟨H3, eH3⟩ : ∃ H3, upd Ha D (SetO X.w D (fun _ => false) 0) = H3 := ⟨_, rfl⟩
  rw [eH3] at I3 I4 pga pta pib pgb ptb pel w0 none3 fp3
  obtain ⟨s4, es4⟩ : ∃ s4 : Shared, ({ s3 with heap := pushCells (s3.heap.push { cls := .type "dict", data := .dict #[] }) sco.names } : Shared) = s4 := ⟨_, rfl⟩
  rw [es4] at I4
  have st4 : tn 0 s4.heap := T.keep _ _ _ st3 fun b _ o e => by rw [← es4]; exact pushCells_keeps _ _ _ _ (Heap.get?_push_of_some _ e)
  have calmF : ∀ {σt : L2.St} {Ht : Hp} {t : Shared}, Inv (X.blk s3 H3 sco ev fp) [] σt Ht t → (∀ b ∈ fp, Ht b = none) → ∀ b ∈ fp, FpOk (X.blk s3 H3 sco ev fp) [] Ht b := by
    intro σt Ht t It none b hb
    refine ⟨none b hb, (It.ok.exf b hb).1, It.ok.exfs b hb, .inl hb, (fun x c e => (It.ok.exf b hb).2 x c e), fun p hp => ?_⟩
    have : p ∈ ([] : List (Addr × Obj)) ++ [] := hp
    simp at this
  suffices z : codeAny (model X.prog X.w) X.A (.compStart (twoSet el ta ia tb ib ca cb sco at_) 0 (.ref it) (.ref D) ev) (compPost (model X.prog X.w) X.A X.xe use Qf (.ref D) s3.heap.objs.size) s4 by
    rw [← es4, ← eev] at z
    exact z
  obtain ⟨vs, evs⟩ : ∃ vs, own.map (·.2) = vs := ⟨_, rfl⟩
  rw [evs] at turn sub I4
  have loop : codeAny (model X.prog X.w) X.A (.compLoop (twoSet el ta ia tb ib ca cb sco at_) 0 (.ref it) (.ref D) ev) (compPost (model X.prog X.w) X.A X.xe use Qf (.ref D) s3.heap.objs.size) s4 := by
    refine loop_a (fb ev) (fun k t => ∃ i Ht, Inv (X.blk s3 H3 sco ev fp) [] (wipe σ vs) Ht t ∧ tn i t.heap ∧ (∀ b ∈ fp, Ht b = none) ∧ W i k Ht) ?_ m0 ⟨0, H3, I4, st4, none3, w0⟩
    rintro k s5 ⟨i, H5, I5, st5, n5, w5⟩
    rcases turn i k H5 w5 with ⟨stop, over⟩ | ⟨go, N, less, step⟩
    · refine thnF (T.done (X.blk s3 H3 sco ev fp) rfl rfl rfl calm i [] s5 _ H5 (fun _ _ => False) I5 (calmF I5 n5) st5 stop) fun r s6 ⟨er, I6⟩ => ?_
      subst er
      have I7 : Inv X pins σ H5 s6 := I3.call' (ch := fp) I6.os I6.base I6.hok I6.bare fun b hb => by
        obtain ⟨⟨_, f1, f2, f3, f4, f5⟩, _⟩ := fp3 b hb
        exact ⟨f3, f1, f4, f5⟩
      have freeC : H5 s3.heap.objs.size = none := by
        rw [← loc]
        exact I6.free
      obtain ⟨m, hm, _⟩ := I6.loc
      have hm : s6.heap.Ns ev.locals m := hm
      rw [loc] at hm
      exact back D s3.heap.objs.size s6 m H5 I7 over hm (I3.fpOk (Nat.le_refl _) freeC)
    · refine thnF (T.item (X.blk s3 H3 sco ev fp) rfl rfl rfl calm i [] s5 _ H5 (fun _ _ => False) I5 (calmF I5 n5) st5 go) fun r s6 ⟨u, er, h6⟩ => ?_
      subst er
      refine thnF h6 fun _ s7 ⟨x, H7, I7, r7, y7, st7, n7⟩ => ?_
      have I7p := I7.pinned (calmF I7 n7) (T.obj _ _ st7)
      refine thnF (pga.run _ s7 _ H7 x u _ I7p r7 (step x H7 y7)) fun _ s8 ⟨σ8, H8, I8, w8, q8⟩ => thnF (pta.run _ s8 σ8 H8 _ I8 q8) fun z s9 ⟨H9, I9, q9⟩ => ?_
      have len8 : (wipe σ vs).length = σ8.length := by rw [← w8, wipe_length]
      have know8 : ∀ (j : Nat) v, (wipe σ vs)[j]? = some (some v) → σ8[j]? = some (some v) := fun j v e => by
        rw [← w8] at e
        exact (wipe_some e).1
      have knowIn : ∀ (j : Nat) v, (wipe σ vs)[j]? = some (some v) → (wipe σ8 inn)[j]? = some (some v) := fun j v e => by
        rw [← w8] at e
        obtain ⟨e1, off⟩ := wipe_some e
        rw [wipe_out fun z => off (sub j z)]
        exact e1
      have fin : ∀ {σt : L2.St} {t : Shared} {Ht : Hp}, Inv (X.blk s3 H3 sco ev fp) ([] ++ pinsAt fp s7.heap) σt Ht t → (wipe σ vs).length = σt.length → (∀ (j : Nat) v, (wipe σ vs)[j]? = some (some v) → σt[j]? = some (some v)) → N Ht → ∃ m, m < k ∧ ∃ i Hu, Inv (X.blk s3 H3 sco ev fp) [] (wipe σ vs) Hu t ∧ tn i t.heap ∧ (∀ b ∈ fp, Hu b = none) ∧ W i m Hu := by
        intro σt t Ht It hlen hknow hN
        obtain ⟨m, lt, wm⟩ := less Ht hN
        have pinned : ∀ b ∈ fp, ∀ o, s7.heap.get? b = some o → t.heap.get? b = some o ∧ Ht b = none := fun b hb o e => by
          have z := It.pin (b, o) (List.mem_append_right _ (List.mem_append_right _ (mem_pinsAt hb e)))
          exact ⟨z.1, z.2.1⟩
        refine ⟨m, lt, i + 1, Ht, (It.unpinned (pins := [])).weak hlen hknow, T.keep _ _ _ st7 fun b hb o e => (pinned b hb o e).1, fun b hb => ?_, wm⟩
        obtain ⟨o, e, _⟩ := T.obj _ _ st7 b hb
        exact (pinned b hb o e).2
      cases z with
      | false =>
        simp only [Bool.false_eq_true, if_false] at q9 ⊢
        exact fin I9 len8 know8 q9
      | true =>
        simp only [if_true] at q9 ⊢
        refine thnF (pib.run _ s9 σ8 H9 _ I9 q9) fun xv s10 hx => thnF hx fun itv s11 h11 => ?_
        obtain ⟨it1, fp1, tn1, K1, Hf, ee, If, T1, stf, fpf, U, ⟨m1, u0⟩, turn1⟩ := h11
        subst ee
        have calmG : ∀ {Ht : Hp}, (∀ b ∈ fp1, Ht b = none) → ∀ b ∈ fp1, FpOk (X.blk s3 H3 sco ev fp) ([] ++ pinsAt fp s7.heap) Ht b := fun none b hb => ⟨none b hb, (fpf b hb).2⟩
        have inner : codeAny (model X.prog X.w) X.A (.compLoop (twoSet el ta ia tb ib ca cb sco at_) 1 (.ref it1) (.ref D) ev) (fun r t => match r with
            | .ok _ => ∃ m, m < k ∧ ∃ i Hu, Inv (X.blk s3 H3 sco ev fp) [] (wipe σ vs) Hu t ∧ tn i t.heap ∧ (∀ b ∈ fp, Hu b = none) ∧ W i m Hu
            | .error _ => False) s11 := by
          refine loop_b (fun kk t => ∃ j Ht, Inv (X.blk s3 H3 sco ev fp) ([] ++ pinsAt fp s7.heap) (wipe σ8 inn) Ht t ∧ tn1 j t.heap ∧ (∀ b ∈ fp1, Ht b = none) ∧ U j kk Ht) ?_ m1 ⟨0, Hf, If.weak (wipe_length _ _) (fun j v e => (wipe_some e).1), stf, (fun b hb => (fpf b hb).1), u0⟩
          rintro kk s12 ⟨j, H12, I12, st12, n12, u12⟩
          rcases turn1 j kk H12 u12 with ⟨stop1, over1⟩ | ⟨go1, M, less1, step1⟩
          · refine thnF (T1.done (X.blk s3 H3 sco ev fp) rfl rfl rfl calm j _ s12 (wipe σ8 inn) H12 (fun _ _ => False) I12 (calmG n12) st12 stop1) fun r s13 ⟨er, I13⟩ => ?_
            subst er
            exact fin I13 (len8.trans (wipe_length σ8 inn).symm) knowIn over1
          · refine thnF (T1.item (X.blk s3 H3 sco ev fp) rfl rfl rfl calm j _ s12 (wipe σ8 inn) H12 (fun _ _ => False) I12 (calmG n12) st12 go1) fun r s13 ⟨u1, er, h13⟩ => ?_
            subst er
            refine thnF h13 fun _ s14 ⟨x1, H14, I14, r14, y14, st14, n14⟩ => ?_
            have I14p := I14.pinned (calmG n14) (T1.obj _ _ st14)
            refine thnF (pgb.run _ s14 (wipe σ8 inn) H14 x1 u1 _ I14p r14 (step1 x1 H14 y14)) fun _ s15 ⟨σ15, H15, I15, w15, q15⟩ => thnF (ptb.run _ s15 σ15 H15 _ I15 q15) fun z1 s16 ⟨H16, I16, q16⟩ => ?_
            have fin1 : ∀ {t : Shared} {Ht : Hp}, Inv (X.blk s3 H3 sco ev fp) (([] ++ pinsAt fp s7.heap) ++ pinsAt fp1 s14.heap) σ15 Ht t → M Ht → ∃ m, m < kk ∧ ∃ j Hu, Inv (X.blk s3 H3 sco ev fp) ([] ++ pinsAt fp s7.heap) (wipe σ8 inn) Hu t ∧ tn1 j t.heap ∧ (∀ b ∈ fp1, Hu b = none) ∧ U j m Hu := by
              intro t Ht It hM
              obtain ⟨m, lt, um⟩ := less1 Ht hM
              have pinned : ∀ b ∈ fp1, ∀ o, s14.heap.get? b = some o → t.heap.get? b = some o ∧ Ht b = none := fun b hb o e => by
                have z := It.pin (b, o) (List.mem_append_right _ (List.mem_append_right _ (mem_pinsAt hb e)))
                exact ⟨z.1, z.2.1⟩
              refine ⟨m, lt, j + 1, Ht, It.unpinned.weak (by rw [← w15, wipe_length]) (fun j v e => by rw [← w15] at e; exact (wipe_some e).1), T1.keep _ _ _ st14 fun b hb o e => (pinned b hb o e).1, fun b hb => ?_, um⟩
              obtain ⟨o, e, _⟩ := T1.obj _ _ st14 b hb
              exact (pinned b hb o e).2
            cases z1 with
            | false =>
              simp only [Bool.false_eq_true, if_false] at q16 ⊢
              exact fin1 I16 q16
            | true =>
              simp only [if_true] at q16 ⊢
              refine thnF (pel.run _ s16 σ15 H16 _ I16 q16) fun v s17 ⟨yv, H17, I17, r17, cc, S0, n0, ey, hD17, room, hM⟩ => ?_
              subst ey
              obtain ⟨tk, rfl⟩ := r17
              exact put_ok (X := X.blk s3 H3 sco ev fp) I17 hD17 room fun t It => fin1 It hM
        exact start_b inner (T1.self X.A 0 _ _ _ stf inner)
  exact PpSet.codeAny_compStart_set loop (T.self X.A 0 _ _ _ st4 loop)
theorem pe_set2 {el ta ia tb ib : Expr} {ca cb : List Expr} {sco : Scope} {own : List (Str × Nat)} {inn : List Nat} {at_ : Pos} {wi wj : TI} {ga gb : TG} {tca tcb : TT} {te : TE} (calm : X.calm = true) (nd : X.N.Nodup) (pi : PI X ta ia wi) (ok : BlkOk X.N X.env.scope sco own) (sub : ∀ i ∈ inn, i ∈ own.map (·.2))
    (pga : InBlk X sco fun Y => PG Y ta ga) (pta : InBlk X sco fun Y => PTs Y ca tca) (pib : InBlk X sco fun Y => PI Y tb ib wj) (pgb : InBlk X sco fun Y => PG Y tb gb) (ptb : InBlk X sco fun Y => PTs Y cb tcb) (pel : InBlk X sco fun Y => PE Y el te)
    (fa : ∀ x, foldedSetIterable ia X.env x = pure x := by intro _; rfl) (fb : ∀ env x, foldedSetIterable ib env x = pure x := by intro _ _; rfl) : PE X (twoSet el ta ia tb ib ca cb sco at_) (tSet2 X.w wi ga tca wj gb tcb te (own.map (·.2)) inn) := by
  refine ⟨fun pins s σ H Q I h => ?_⟩
  rw [PpSet.eval_SetComp]
  refine set2_core calm nd I pi ok sub pga pta pib pgb ptb pel fa fb h fun D C t m Ht It q hm fc => ⟨m, hm, fun h'' sb => ?_⟩
  obtain ⟨f0, f1, _, f3, f4, f5⟩ := fc
  exact ⟨.ref D, Ht, It.turned (t' := t.toks) (fun b o hb e => (sb.2 b hb).trans e) f0 f1 f3 f4 f5, rfl, q⟩
end
end Ft

set_option Elab.async false
set_option linter.all false
set_option maxRecDepth 100000
set_option maxHeartbeats 4000000
/-! Plain mathematics: the law's own way of meeting places, row by row -/
namespace Ft
structure Layer (n : Nat) (rs : List (Nat × Nat)) (ws : List Nat) (a : Nat) (F W : List Nat) : Prop where
  nd : F.Nodup
  lt : ∀ b ∈ F, b < n
  fair : ∀ b ∈ F, Reach rs ws a b
  wait : ∀ x ∈ W, x = a ∨ (x ∈ F ∧ x ∉ ws)
  ok : ∀ x, (x = a ∨ (x ∈ F ∧ x ∉ ws)) → x ∈ W ∨ ∀ b, (x, b) ∈ rs → b ∈ F
theorem Layer.start {n : Nat} {rs : List (Nat × Nat)} {ws : List Nat} {a : Nat} : Layer n rs ws a [] [a] :=
  ⟨List.nodup_nil, fun _ h => absurd h List.not_mem_nil, fun _ h => absurd h List.not_mem_nil, fun x h => .inl (List.mem_singleton.mp h), fun x h => by
    rcases h with h | h
    · exact .inl (List.mem_singleton.mpr h)
    · exact absurd h.1 List.not_mem_nil⟩
theorem Layer.step {n : Nat} {rs : List (Nat × Nat)} {ws : List Nat} {a : Nat} {F W A : List Nat} (L : Layer n rs ws a F W) (inR : ∀ p ∈ rs, p.1 < n ∧ p.2 < n) (nd : A.Nodup) (hA : ∀ b, b ∈ A ↔ ∃ x ∈ W, (x, b) ∈ rs) :
    Layer n rs ws a (F ++ A.filter fun b => !decide (b ∈ F)) ((A.filter fun b => !decide (b ∈ F)).filter fun b => !decide (b ∈ ws)) := by
  have mem : ∀ b, b ∈ A.filter (fun b => !decide (b ∈ F)) ↔ b ∈ A ∧ b ∉ F := fun b => by simp [List.mem_filter]
  have fairA : ∀ b ∈ A, b < n ∧ Reach rs ws a b := by
    intro b hb
    obtain ⟨x, hx, hr⟩ := (hA b).mp hb
    refine ⟨(inR _ hr).2, ?_⟩
    rcases L.wait x hx with e | ⟨h1, h2⟩
    · rw [e] at hr
      exact .one hr
    · exact .more (L.fair x h1) h2 hr
  refine ⟨?_, ?_, ?_, ?_, ?_⟩
  · rw [List.nodup_append]
    refine ⟨L.nd, nd.filter _, fun x hx y hy e => ?_⟩
    exact ((mem y).mp hy).2 (e ▸ hx)
  · intro b hb
    rcases List.mem_append.mp hb with hb | hb
    · exact L.lt b hb
    · exact (fairA b ((mem b).mp hb).1).1
  · intro b hb
    rcases List.mem_append.mp hb with hb | hb
    · exact L.fair b hb
    · exact (fairA b ((mem b).mp hb).1).2
  · intro x hx
    rw [List.mem_filter] at hx
    exact .inr ⟨List.mem_append_right _ hx.1, by simpa using hx.2⟩
  · intro x hx
    have old : (x = a ∨ (x ∈ F ∧ x ∉ ws)) → ∀ b, (x, b) ∈ rs → b ∈ F ++ A.filter fun b => !decide (b ∈ F) := by
      intro h b hb
      rcases L.ok x h with h1 | h1
      · by_cases hf : b ∈ F
        · exact List.mem_append_left _ hf
        · exact List.mem_append_right _ ((mem b).mpr ⟨(hA b).mpr ⟨x, h1, hb⟩, hf⟩)
      · exact List.mem_append_left _ (h1 b hb)
    rcases hx with e | ⟨h1, h2⟩
    · exact .inr (old (.inl e))
    · rcases List.mem_append.mp h1 with h1 | h1
      · exact .inr (old (.inr ⟨h1, h2⟩))
      · exact .inl (List.mem_filter.mpr ⟨h1, by simpa using h2⟩)
theorem Layer.ends {n : Nat} {rs : List (Nat × Nat)} {ws : List Nat} {a : Nat} {F : List Nat} (L : Layer n rs ws a F []) (x : Nat) : x ∈ F ↔ x < n ∧ ∃ a' ∈ [a], Reach rs ws a' x := by
  constructor
  · intro h
    exact ⟨L.lt x h, a, List.mem_singleton.mpr rfl, L.fair x h⟩
  · rintro ⟨_, a', ha', r⟩
    rw [List.mem_singleton.mp ha'] at r
    refine r.within (S := (· ∈ F)) (fun y hy => ?_) fun y z hy hw hz => ?_
    · rcases L.ok a (.inl rfl) with h | h
      · exact absurd h List.not_mem_nil
      · exact h y hy
    · rcases L.ok y (.inr ⟨hy, hw⟩) with h | h
      · exact absurd h List.not_mem_nil
      · exact h z hz
/-- a sorted row of a set's numbers -/
theorem set_nat {ns : List Int} {A : List Nat} (up : ns.Pairwise (· < ·)) (mem : ∀ j : Int, j ∈ ns ↔ decide (j ∈ iN A) = true) : ∃ wl : List Nat, ns = iN wl ∧ wl.Pairwise (· < ·) ∧ ∀ x, x ∈ wl ↔ x ∈ A := by
  have nn : ∀ y ∈ ns, 0 ≤ y := by
    intro y hy
    have := of_decide_eq_true ((mem y).mp hy)
    unfold iN at this
    obtain ⟨z, _, ez⟩ := List.mem_map.mp this
    omega
  have e : ns = iN (ns.map Int.toNat) := by
    unfold iN
    rw [List.map_map]
    conv => lhs; rw [← List.map_id ns]
    exact List.map_congr_left fun y hy => (Int.toNat_of_nonneg (nn y hy)).symm
  refine ⟨ns.map Int.toNat, e, ?_, fun x => ?_⟩
  · rw [e] at up
    unfold iN at up
    exact (List.pairwise_map.mp up).imp fun h => by omega
  · constructor
    · intro h
      obtain ⟨y, hy, ey⟩ := List.mem_map.mp h
      have h2 := of_decide_eq_true ((mem y).mp hy)
      have h3 : y = (x : Int) := by
        have := nn y hy
        omega
      rw [h3] at h2
      exact iN_mem.mp h2
    · intro h
      exact List.mem_map.mpr ⟨(x : Int), (mem _).mpr (decide_eq_true (iN_mem.mpr h)), by omega⟩
end Ft

set_option Elab.async false
set_option linter.all false
set_option maxRecDepth 100000
set_option maxHeartbeats 8000000
namespace Ft
open PySem PySem.Spec PyProof.Rows L2
theorem piece_lt' {C : Chart} {a b : Nat} (ha : a < C.n) (h : b ∈ pieceOf C a) : b < C.n := by
  unfold pieceOf at h
  by_cases hw : a ∈ C.wished
  · rw [if_pos hw] at h
    rw [List.mem_singleton.mp h]
    exact ha
  · rw [if_neg hw] at h
    exact (those_mem.mp h).1
theorem len_of_lt' (l : List Nat) (n : Nat) (nd : l.Nodup) (b : ∀ x ∈ l, x < n) : l.length ≤ n := by
  have := nat_nodup_len l (List.range n) nd fun x hx => List.mem_range.mpr (b x hx)
  rwa [List.length_range] at this
section
variable {P : Program} {w : World} {K : PySem.W.Frag} {mg : Str → Option Value} {base : Heap} {ca : Str → Addr}
/-! ### made_standing, of data -/
theorem noPlace_cons {n i : Nat} {d : PyData} {ds : List PyData} : noPlace n i (d :: ds) = if rngD n d = true then noPlace n (i + 1) ds else some i := rfl
theorem standErr_not {n : Nat} {d : PyData} (h : isTup d = false) : standErr n d = some (-1) := by
  cases d <;> first | rfl | cases h
/-- what a function of a map and a standing owes -/
def DueS (K : PySem.W.Frag) (ca : Str → Addr) (H : Hp) (E : XK) (dc ds : PyData) (ok : Chart → List Nat → Prop) : Prop :=
  (∀ x i, mapErr dc = some (x, i) → Raised K ca H E (x, .int i)) ∧ ∀ C, dc = chartD C → C.Ok → (∀ i, standErr C.n ds = some i → Raised K ca H E ("BadStanding", .int i)) ∧ ∀ S, ds = lotD S → (∀ x ∈ S, x < C.n) → 1 ≤ S.length → S.length ≤ 3 → ok C S
def spX_made_standing (K : PySem.W.Frag) (ca : Str → Addr) : Sp := fun vs H Q E => ∃ (vc vt : V) (dc ds : PyData), vs = [vc, vt] ∧ Dp K H vc dc ∧ Dp K H vt ds ∧ DueS K ca H E dc ds fun C S => ∀ H', Same H H' → Q vt H'
theorem DueS.valid {K : PySem.W.Frag} {ca : Str → Addr} {H : Hp} {E : XK} {C : Chart} {S : List Nat} {ok : Chart → List Nat → Prop} (o : C.Ok) (lt : ∀ x ∈ S, x < C.n) (l1 : 1 ≤ S.length) (l3 : S.length ≤ 3) (q : ok C S) : DueS K ca H E (chartD C) (lotD S) ok :=
  ⟨fun x i h => (by rw [mapErr_chart o] at h; cases h), fun C' e _ => (by
    have z := chartD_inj e
    subst z
    exact ⟨fun i h => (by rw [standErr_ok lt l1 l3] at h; cases h), fun S' e' _ _ _ => (by
      have z := lotD_inj e'
      subst z
      exact q)⟩)⟩
def sp_made_standing (K : PySem.W.Frag) : Sp := fun vs H Q _ => ∃ (c t : Addr) (C : Chart) (S : List Nat), vs = [.ref c, .ref t] ∧ IsChart K H c C ∧ C.Ok ∧ SqT K H t (S.map vN) ∧ (∀ x ∈ S, x < C.n) ∧ 1 ≤ S.length ∧ S.length ≤ 3 ∧ ∀ H', Same H H' → Q (.ref t) H'
theorem calv_made_standing (c_made_standing : CalX P w K mg base 6 "made_standing" (spX_made_standing K ca)) : Cal P w K mg base 6 "made_standing" (sp_made_standing K) :=
  c_made_standing.valid fun vs H Q E ⟨c, t, C, S, e, isC, ok, hS, lt, l1, l3, q⟩ => ⟨_, _, _, _, e, dp_chart isC, dp_lot hS, .valid ok lt l1 l3 q⟩
/-! ### is_standing -/
/-! ### members -/
noncomputable def membersOf (C : Chart) (S : List Nat) : List Nat := those C.n fun b => ∃ a ∈ S, b ∈ pieceOf C a
def spX_members (K : PySem.W.Frag) (ca : Str → Addr) : Sp := fun vs H Q E => ∃ (vc vt : V) (dc ds : PyData), vs = [vc, vt] ∧ Dp K H vc dc ∧ Dp K H vt ds ∧ DueS K ca H E dc ds fun C S => ∀ q H', Same H H' → SqT K H' q ((membersOf C S).map vN) → Q (.ref q) H'
def sp_members (K : PySem.W.Frag) : Sp := fun vs H Q _ => ∃ (c t : Addr) (C : Chart) (S : List Nat), vs = [.ref c, .ref t] ∧ IsChart K H c C ∧ C.Ok ∧ SqT K H t (S.map vN) ∧ (∀ x ∈ S, x < C.n) ∧ 1 ≤ S.length ∧ S.length ≤ 3 ∧ ∀ q H', Same H H' → SqT K H' q ((membersOf C S).map vN) → Q (.ref q) H'
theorem calv_members (c_members : CalX P w K mg base 7 "members" (spX_members K ca)) : Cal P w K mg base 7 "members" (sp_members K) :=
  c_members.valid fun vs H Q E ⟨c, t, C, S, e, isC, ok, hS, lt, l1, l3, q⟩ => ⟨_, _, _, _, e, dp_chart isC, dp_lot hS, .valid ok lt l1 l3 q⟩
end
end Ft

set_option Elab.async false
set_option linter.all false
set_option maxRecDepth 100000
set_option maxHeartbeats 8000000
namespace Ft
open PySem PySem.Spec PyProof.Rows L2
theorem badPlace_app {n : Nat} : ∀ {ws : List Nat} {b : Int} {i : Nat}, ws.Pairwise (· < ·) → (∀ x ∈ ws, x < n) → (∀ x ∈ ws, b < (x : Int)) → badPlace n b i (ws.map nD ++ [nD n]) = some (i + ws.length)
  | [], b, i, _, _, _ => by
    show (if numIn (b + 1) ((n : Int) - 1) (nD n) = true then badPlace n (numOf (nD n)) (i + 1) [] else some i) = some (i + 0)
    rw [if_neg]
    · rfl
    · intro h
      have := numIn_nat.mp h
      omega
  | w :: ws, b, i, up, lt, ab => by
    have h1 := lt w List.mem_cons_self
    have h2 := ab w List.mem_cons_self
    obtain ⟨u1, u2⟩ := List.pairwise_cons.mp up
    show (if numIn (b + 1) ((n : Int) - 1) (nD w) = true then badPlace n (numOf (nD w)) (i + 1) (ws.map nD ++ [nD n]) else some i) = some (i + (ws.length + 1))
    rw [if_pos (numIn_nat.mpr ⟨by omega, by omega⟩)]
    have := badPlace_app (b := numOf (nD w)) (i := i + 1) u2 (fun x hx => lt x (List.mem_cons_of_mem _ hx)) fun x hx => by
      have := u1 x hx
      show (w : Int) < x
      omega
    rw [this]
    congr 1
    omega
theorem err_chart {C : Chart} (ok : C.Ok) (r w : PyData) : mapErr (.tuple [nD C.n, r, w]) = mapErrN C.n r w := by
  have n60 := ok.n60
  show mapErr3 (nD C.n) r w = _
  unfold mapErr3 mapErrN
  rw [if_pos (by rw [numIn_nat]; omega), nD_toNat]
  cases roadsErr C.n r with
  | some i => rfl
  | none => cases wishErr C.n w <;> rfl
theorem roads_none {C : Chart} (ok : C.Ok) : roadsErr C.n (.tuple (C.roads.map pairD)) = none := by
  unfold roadsErr
  simp only []
  rw [if_pos (by rw [List.length_map]; exact ok.many), badRoad_ok ok.upR ok.inR (fun _ _ => rfl)]
  rfl
end Ft

set_option Elab.async false
set_option linter.all false
set_option maxRecDepth 100000
set_option maxHeartbeats 4000000
namespace Ft
open PySem PySem.Spec PyProof.Rows L2
/-! ### what repr shows of rows of places -/
def encL (l : List Nat) : PyData := .tuple (l.map fun (n : Nat) => .int (n : Int))
theorem small_int : ∀ n : Fin 64, (PyData.int ((n.1 : Nat) : Int)).showable = true ∧ (PyData.int ((n.1 : Nat) : Int)).leavesShort 13 = true ∧ (PyData.int ((n.1 : Nat) : Int)).weight ≤ 7 := by decide +kernel
theorem small_nat {n : Nat} (h : n < 64) : (PyData.int (n : Int)).showable = true ∧ (PyData.int (n : Int)).leavesShort 13 = true ∧ (PyData.int (n : Int)).weight ≤ 7 := small_int ⟨n, h⟩
theorem ints_shown : ∀ l : List Nat, (∀ n ∈ l, n < 64) → PyData.showableAll (l.map fun (n : Nat) => .int (n : Int)) = true ∧ PyData.leavesShortAll 13 (l.map fun (n : Nat) => .int (n : Int)) = true ∧ PyData.weightAll (l.map fun (n : Nat) => .int (n : Int)) ≤ 8 * l.length ∧ PyData.depthAll (l.map fun (n : Nat) => .int (n : Int)) = 0
  | [], _ => by simp [PyData.showableAll, PyData.leavesShortAll, PyData.weightAll, PyData.depthAll]
  | n :: l, h => by
    obtain ⟨a1, a2, a3⟩ := small_nat (h n List.mem_cons_self)
    obtain ⟨b1, b2, b3, b4⟩ := ints_shown l fun m hm => h m (List.mem_cons_of_mem _ hm)
    simp only [List.map_cons, PyData.showableAll, PyData.leavesShortAll, PyData.weightAll, PyData.depthAll, a1, a2, b1, b2, b4, List.length_cons, PyData.depth, Bool.and_self, Nat.max_self, true_and, and_true]
    omega
theorem shows_row {l : List Nat} (h : ∀ n ∈ l, n < 64) (few : l.length ≤ 64) : Shows (encL l) := by
  obtain ⟨b1, b2, b3, b4⟩ := ints_shown l h
  unfold encL
  refine ⟨?_, ?_, ?_, ?_⟩
  · simp only [PyData.showable, b1]
  · simp only [PyData.leavesShort, b2]
  · simp only [PyData.weight]
    omega
  · simp only [PyData.depth, b4]
    omega
theorem rows_shown : ∀ lls : List (List Nat), (∀ l ∈ lls, (∀ n ∈ l, n < 64) ∧ l.length ≤ 64) → PyData.showableAll (lls.map encL) = true ∧ PyData.leavesShortAll 13 (lls.map encL) = true ∧ PyData.weightAll (lls.map encL) ≤ 513 * lls.length ∧ PyData.depthAll (lls.map encL) ≤ 1
  | [], _ => by simp [PyData.showableAll, PyData.leavesShortAll, PyData.weightAll, PyData.depthAll]
  | l :: lls, h => by
    obtain ⟨a1, a2⟩ := h l List.mem_cons_self
    obtain ⟨c1, c2, c3, c4⟩ := ints_shown l a1
    obtain ⟨b1, b2, b3, b4⟩ := rows_shown lls fun m hm => h m (List.mem_cons_of_mem _ hm)
    have e : encL l = .tuple (l.map fun (n : Nat) => .int (n : Int)) := rfl
    simp only [List.map_cons, PyData.showableAll, PyData.leavesShortAll, PyData.weightAll, PyData.depthAll, b1, b2, List.length_cons, e, PyData.showable, PyData.leavesShort, PyData.weight, PyData.depth, c1, c2, c4, Bool.and_self, true_and]
    omega
theorem shows_rows {lls : List (List Nat)} (h : ∀ l ∈ lls, (∀ n ∈ l, n < 64) ∧ l.length ≤ 64) (few : lls.length ≤ 64) : Shows (.tuple (lls.map encL)) := by
  obtain ⟨b1, b2, b3, b4⟩ := rows_shown lls h
  refine ⟨?_, ?_, ?_, ?_⟩
  · simp only [PyData.showable, b1]
  · simp only [PyData.leavesShort, b2]
  · simp only [PyData.weight]
    omega
  · simp only [PyData.depth]
    omega
theorem dp_row {K : PySem.W.Frag} {H : Hp} {t : Addr} {l : List Nat} (h : SqT K H t (l.map vN)) : Dp K H (.ref t) (encL l) := by
  refine .tup h ?_
  have : DpAll K H ((iN l).map V.int) ((iN l).map PyData.int) := dpAll_ints _
  rw [← vN_map] at this
  unfold iN at this
  rw [List.map_map] at this
  exact this
end Ft

set_option Elab.async false
set_option linter.all false
set_option maxRecDepth 100000
set_option maxHeartbeats 4000000
/-! Lambdas that may raise, where the error's context is known to be None. -/
namespace Ft
open PySem PySem.Spec PyProof.Rows L2
open LamX (TabB TabS Tabs ExtN CodeO LamS lamCx lamEnv tLam)
def lamCxN (X : Cx) (A : Around) (outer : List Env) (s : Shared) (H : Hp) (E : XK) (sc : Scope) (f c' : Addr) : Cx :=
  { lamCx X A outer s H E sc f c' with xe := fun e z => wpAny (model X.prog X.w) (A.deeper (lamEnv X sc s.heap.objs.size f c')) (leaving (lamEnv X sc s.heap.objs.size f c') e) (fun _ y => L2N.CX X.prog X.w outer H s E e y) (fun e2 y => L2N.CX X.prog X.w outer H s E e2 y) z }
theorem lamN_inv {X : Cx} {A : Around} {outer : List Env} {s z : Shared} {H G : Hp} {E : XK} {sc : Scope} {f c' : Addr} {pins : List (Addr × Obj)} {σ : L2.St} (J : Inv (lamCx X A outer s H E sc f c') pins σ G z) : Inv (lamCxN X A outer s H E sc f c') pins σ G z := by
  have O := J.ok
  exact ⟨⟨O.mod, O.kind, O.glob, O.blt, O.above, O.inj, O.has, O.cab, O.hd, O.frames, O.stk, O.exf, O.bs, O.bsz, O.noex, O.exfs, O.funs, O.frf⟩, J.os, J.bare, J.base, J.loc, J.cell, J.free, J.freeC, J.pin, J.hok, J.len⟩
def GivesToN (X : Cx) (Ng : List Str) (x : Str) (sg : Scope) (g : Addr) (cdg : Value) (bg : List Stmt) (a : Str) (q : Str) (TT : (XK → Hp → VK → Prop) → Hp → VK → Prop) : Prop :=
  ∀ (f c' : Addr) (s : Shared) (H : Hp) (Q : VK) (tl : XK → Hp → VK → Prop),
    (∀ (W : WX) (pn : List (Addr × Obj)) (xe : Value → Shared → Prop) (E : XK) (p1 p2 : Pos), L2N.Takes ((cxOf L2.CX0 X.prog X.w X.K X.mg X.base Ng x sg g cdg X.A X.stack s H L2.E0).tr pn xe) W → (∀ cls d τ G, E cls d G → W cls d τ G) →
      PE ((cxOf L2.CX0 X.prog X.w X.K X.mg X.base Ng x sg g cdg X.A X.stack s H L2.E0).tr pn xe) (.Call (.Name a p1) [] [] p2) (fun τ G R => τ[0]? = some (some (.ref f)) ∧ G c' = some (CodeO c' q) ∧ tl E G R)) →
    H c' = some (CodeO c' q) → TT tl H Q →
    ∃ t, PSs (cxOf L2.CX0 X.prog X.w X.K X.mg X.base Ng x sg g cdg X.A X.stack s H L2.E0).nox bg t ∧ t { nx := fun _ G => Q .non G, rt := Q } (L2.start Ng [.ref f]) H
section
variable {X : Cx} {pins : List (Addr × Obj)} {σ : L2.St} {H : Hp} {s : Shared}
/-- the lambda called, within the def that got it -/
theorem pe_actN {CXg : CXT} {Eg : XK} {Ng : List Str} {qg : Str} {sg : Scope} {g f c' : Addr} {cdg pm ctv : Value} {params : Arguments} {body : Expr} {sc : Scope} {k i : Nat} {a : Str} {pn : List (Addr × Obj)} {xe : Value → Shared → Prop} {W : WX} {E : XK} {tb : TE} {p1 p2 : Pos}
    (I : Inv X pins σ H s) (L : LamS X.env.scope sc) (isF : s.heap.get? f = some (PySem.W.kla_obj "<lambda>" (X.env.qual ++ "<lambda>") params body sc (cloFrom X.env.cells sc.names []) pm c' ctv)) (noH : H f = none) (noFr : f ∉ frs X.stack)
    (binds : bindArgs (PySem.W.kla_fn "<lambda>" (X.env.qual ++ "<lambda>") params body sc (cloFrom X.env.cells sc.names []) pm (.ref c') ctv) ⟨[], []⟩ = pure [])
    (tk : L2N.Takes ((cxOf CXg X.prog X.w X.K X.mg X.base Ng qg sg g cdg X.A X.stack s H Eg).tr pn xe) W) (hW : ∀ cls d τ G, E cls d G → W cls d τ G) (hr : Room (k + 1) (X.A.deeper (envOfC qg sg s.heap.objs.size g cdg)))
    (hbody : ∀ (A : Around) (outer : List Env) (s : Shared) (H : Hp), Room k (A.deeper (lamEnv X sc s.heap.objs.size f c')) → PE (lamCxN X A outer s H E sc f c') body tb)
    (hN : Ng[i]? = some a) (hv : Vis sg a) (hd : (a == ("__debug__" : Str)) = false := by decide) (hcd : (a == ("__classdict__" : Str)) = false := by decide) :
    PE ((cxOf CXg X.prog X.w X.K X.mg X.base Ng qg sg g cdg X.A X.stack s H Eg).tr pn xe) (.Call (.Name a p1) [] [] p2) (fun τ G R => τ[i]? = some (some (.ref f)) ∧ G c' = some (CodeO c' (X.env.qual ++ "<lambda>")) ∧ tb σ G R) := by
  refine ⟨fun pinsZ z τ G R JZ ⟨slot, code, want⟩ => ?_⟩
  refine wpAny_Call_Name_kw (thn ((pe_var (pos := p1) (i := i) hN hv hd hcd).run pinsZ z τ G (fun v G1 => v = .ref f ∧ G1 = G) JZ ⟨.ref f, slot, rfl, rfl⟩) fun u z1 ⟨v, G1, J1, rel, ev, eG⟩ => ?_)
  subst ev eG
  obtain rfl : u = Value.ref f := rel
  have isF1 := J1.base.keep f _ isF noH noFr (fun m => nomatch (show f ∈ ([] : List Addr) from m))
  have ran : codeAny (model X.prog X.w) (X.A.deeper (envOfC qg sg s.heap.objs.size g cdg)) (.call (.ref f) ⟨[], []⟩) (CR (L2N.CX X.prog X.w) (envOfC qg sg s.heap.objs.size g cdg :: X.stack) X.prog X.w G1 z1 R E) z1 := by
    obtain ⟨⟨oc, vs, t, oAt, oData, oVs⟩, _, _⟩ := J1.hok c' _ code
    refine PySem.W.kla_callFunE hr.depth isF1 rfl L.co L.gen rfl ⟨c', oc, vs, t, rfl, oAt, oData, oVs⟩ ?_
    rw [binds]
    refine wpAny_pure (wpAny_newFunctionEnv (fun y hy => (L.own y hy).2) (fun y hy => absurd hy (by simp)) (fun h1 ns sb => ⟨J1.nolimit.fresh _ sb, ?_⟩) L.kind)
    show codeAny _ _ (.expr body (lamEnv X sc z1.heap.objs.size f c')) _ _
    have start := lamN_inv (LamX.lam_start2 (E := E) (f := f) (c' := c') (A := X.A.deeper (envOfC qg sg s.heap.objs.size g cdg)) (outer := envOfC qg sg s.heap.objs.size g cdg :: X.stack) (tk := z1.toks + ([] : List (Str × Value)).length) I L J1.env0 hr.hd J1.base ns fun b o e => sb.extBut b o (Nat.ne_of_lt (Heap.lt_size e)) (Heap.get?_push_of_some _ e))
    refine PySem.W.kla_codeExpr (wpAny_mono ((hbody _ _ z1 G1 (hr.deeper _)).run [] _ _ G1 R start want) (fun v y got => ?_) fun _ _ gone => gone)
    obtain ⟨v2, G2, J2, rel2, fin⟩ := got
    exact ⟨v2, G2, J2.os, J2.bare, J2.base, J2.hok, rel2, fin⟩
  refine PySem.W.callWith_F0 ⟨_, _, _, _, isF1⟩ (wpAny_call (codeAny_mono ran fun r y ended => ?_))
  rcases r with er | (_ | _ | _ | u)
  · exact L2N.passes_call tk hW pinsZ τ G1 z1 er y J1 ended
  all_goals first | exact False.elim ended | exact J1.after ended
end
/-- x(lambda: body) -/
theorem pe_lamcallN {X : Cx} {T : List (Addr × Str)} {TT : (XK → Hp → VK → Prop) → Hp → VK → Prop} {x a : Str} {g c P : Addr} {k : Nat} {pg : Arguments} {bg : List Stmt} {sg : Scope} {dV kV doc pm cdv ct oc : Value} {an od : Option Addr} {osl : Array (Option Value)} {Ng : List Str}
    {params : Arguments} {body : Expr} {sc : Scope} {t : XK → TE} {p lpos pos : Pos} (hg : Gl X x) (hm : X.mg x = some (.ref g)) (hk : PySem.W.keepIn X.K (.ref g) = true)
    (lk : X.K.lookup g = some ⟨oc, od, .func (PySem.W.fnOf x x pg bg sg dV kV doc pm an cdv ct), osl⟩) (code : PySem.W.codeIn X.K cdv x = true) (binds : L2.Binds X.K (PySem.W.fnOf x x pg bg sg dV kV doc pm an cdv ct) [a] []) (Sg : FnScope Ng [a] sg) (first : Ng[0]? = some a) (hva : Vis sg a)
    (gives : GivesToN X Ng x sg g cdv bg a (X.env.qual ++ "<lambda>") TT)
    (TB : TabB X.base X.mg c P) (mine : X.env.code = .ref c) (inT : (P, X.env.qual ++ "<lambda>") ∈ T) (alone : ∀ p ∈ T, p.1 = P → p.2 = X.env.qual ++ "<lambda>") (hr : Room (k + 2) X.A) (L : LamS X.env.scope sc) (hdef : defaultsOf params X.env = ([], []))
    (hbind : ∀ (q : Str) (cl : List (Str × Addr)) (pm cv ctv : Value), bindArgs (PySem.W.kla_fn "<lambda>" q params body sc cl pm cv ctv) ⟨[], []⟩ = pure [])
    (hbody : ∀ (A : Around) (outer : List Env) (s : Shared) (H : Hp) (E : XK) (f c' : Addr), Room k (A.deeper (lamEnv X sc s.heap.objs.size f c')) → PE (lamCxN X A outer s H E sc f c') body (t E))
    (hdb : (x == ("__debug__" : Str)) = false := by decide) (hd : (a == ("__debug__" : Str)) = false := by decide) (hcd : (a == ("__classdict__" : Str)) = false := by decide) :
    PE X (.Call (.Name x p) [.Lambda params body sc lpos] [] pos) (tLam T TT t) := by
  refine ⟨fun pins s σ H Q I ⟨tabs, want⟩ => wpAny_Call_Name_kw (ld_glob I hg hm (PySem.W.callWith_K (h₀ := X.base) I.ok.mod.kin hk ?_ (by rfl) (by rfl)) hdb)⟩
  show wpAny _ _ (spliced ((false, eval (.Lambda params body sc lpos) X.env) :: backTo pos (starEach [] X.env))) _ _ s
  refine Calls.spliced_cons (LamX.lam_make2 I TB mine inT alone tabs hdef (L.has I.ok) fun f c' pm2 ctv H1 z I1 grown tabs1 isF noH noFr codeAt => Calls.spliced_nil ⟨I1.kIn, ?_⟩)
  have ran : codeAny (model X.prog X.w) X.A (.call (.ref g) ⟨[.ref f], []⟩) (CR L2.CX0 X.stack X.prog X.w H1 z Q L2.E0) z := by
    refine LamX.run_ofS (N := Ng) (ps := [a]) (us := [.ref f]) (vs := [.ref f]) lk code Sg hr I1.env0 (binds z [.ref f] I1.kIn rfl) (.cons rfl .nil) rfl fun room => ?_
    obtain ⟨u, hu, fin⟩ := gives f c' z H1 Q (fun E G R => t E σ G R) (fun W pn xe E p1 p2 tk hW => pe_actN (i := 0) I1 L isF noH noFr (hbind _ _ _ _ _) tk hW room (fun A outer s H r => hbody A outer s H E f c' r) first hva hd hcd) codeAt (want H1 grown tabs1)
    exact ⟨u, hu.nox, fin⟩
  refine wpAny_call (codeAny_mono ran fun r y ended => ?_)
  rcases r with er | (_ | _ | _ | u)
  all_goals first | exact I1.after ended | exact (show False from ended).elim
end Ft

set_option Elab.async false
set_option linter.all false
set_option maxRecDepth 100000
set_option maxHeartbeats 4000000
/-! Lambdas without parameters, handed to a def that calls them; the end of a law whose defs make such. -/
namespace Ft
open PySem PySem.Spec PyProof.Rows L2
open LamX (TabB TabS Tabs ExtN CodeO LamS lamSB lamS_by lamEnv tLam)
/-! ### defs that make lambdas: their code object is known -/
structure DefT (K : PySem.W.Frag) (mg : Str → Option Value) (x : Str) (st : Stmt) (c : Addr) : Prop where
  ex : ∃ (f : Addr) (oc : Value) (od : Option Addr) (kV doc pm : Value) (an : Option Addr) (ct : Value) (osl : Array (Option Value)),
    K.lookup f = some ⟨oc, od, .func (PySem.W.fnOf x x (L2.defArgs st) (L2.defBody st) (L2.defScope st) .none kV doc pm an (.ref c) ct), osl⟩ ∧ PySem.W.codeIn K (.ref c) x = true ∧ PySem.W.keepIn K (.ref f) = true ∧ mg x = some (.ref f)
section
variable {P : Program} {w : World} {K : PySem.W.Frag} {mg : Str → Option Value} {base : Heap}
theorem calG_ofT {x : Str} {st : Stmt} {c : Addr} {N ps : List Str} {k : Nat} {sp : Sp} (D : DefT K mg x st c) (S : FnScope N ps (L2.defScope st))
    (bd : ∀ (kV doc pm : Value) (an : Option Addr) (cdv ct : Value) (us : List Value), us.length = ps.length → bindArgs (PySem.W.fnOf x x (L2.defArgs st) (L2.defBody st) (L2.defScope st) .none kV doc pm an cdv ct) ⟨us, []⟩ = pure (ps.zip us))
    (many : ∀ vs H Q E, sp vs H Q E → vs.length = ps.length)
    (body : ∀ (f : Addr) (A : Around) (out : List Env) (s : Shared) (H : Hp) (vs : List V) (Q : VK) (E : XK), A.guards = some [] → Room k (A.deeper (envOfC x (L2.defScope st) s.heap.objs.size f (.ref c))) → sp vs H Q E →
      ∃ t, PSs (cxOf L2.CX0 P w K mg base N x (L2.defScope st) f (.ref c) A out s H E).nox (L2.defBody st) t ∧ t { nx := fun _ H' => Q .non H', rt := Q } (start N vs) H) : CalG P w K mg base (k + 1) x sp := by
  obtain ⟨f, oc, od, kV, doc, pm, an, ct, osl, lk, hcd, kp, hm⟩ := D.ex
  refine ⟨f, _, ps, ⟨many, ?_⟩, hm, kp, .all (bd kV doc pm an (.ref c) ct)⟩
  intro A out s H args us vs Q E hg hr e0 hb r hsp
  have hin : K.In s.heap := e0.mod.kin.keeps (fun b o q => (e0.bs b o q).1)
  have nolim : s.heap.NoLimit := e0.mod.nolimit.keeps (fun b o q => (e0.bs b o q).1)
  have kinds : ∀ y ∈ ps.zip us, (L2.defScope st).names.lookup y.1 = some .local ∨ ((L2.defScope st).names.lookup y.1 = some .cell ∧ ((cellsFrom (s.heap.objs.size + 1) (L2.defScope st).names []).lookup y.1).isSome = true) := by
    intro y hy
    cases S.par y.1 (List.of_mem_zip (a := y.1) (b := y.2) hy).1 with
    | inl q => exact .inl q
    | inr q => exact .inr ⟨q, PySem.W.cellsFrom_some _ _ _ (.inl q)⟩
  refine codeAny_call_function hr.depth (hin _ _ lk) rfl S.co S.gen rfl (PySem.W.codeRec_of hin hcd) (hb _ _ _ _ ?_)
  refine wpAny_newFunctionEnv_cells S.kind kinds fun env he s1 z => ?_
  subst he
  refine ⟨nolim.keeps z.toInCall.keep, codeAny_func ?_⟩
  obtain ⟨t, ht, hq⟩ := body f A out s H vs Q E hg (hr.deeper _) hsp
  have I := inv_start (CX := L2.CX0) (E := E) (f := f) (cd := .ref c) (qual := x) S hr.hd e0 (many _ _ _ _ hsp) r z
  refine wpAny_mono (ht.nox.run [] s1 (start N vs) H _ I hq) ?_ (fun e s' hs => hs)
  intro fl s' hs
  have ends : ∀ {σ' : L2.St} {H' : Hp} {v : V} {u : Value}, Inv (cxOf L2.CX0 P w K mg base N x (L2.defScope st) f (.ref c) A out s H E) [] σ' H' s' → RelV v u → Q v H' → CE out P w H s Q u s' := by
    intro σ' H' v u J rv q
    exact ⟨v, H', J.os, J.bare, J.base, J.hok, rv, q⟩
  cases fl with
  | ret u => exact let ⟨v, σ', H', J, rv, q⟩ := hs; ends J rv q
  | next => exact let ⟨σ', H', J, q⟩ := hs; ends (v := V.non) (u := Value.none) J rfl q
  | brk => exact let ⟨_, _, _, q⟩ := hs; q.elim
  | cont => exact let ⟨_, _, _, q⟩ := hs; q.elim
end
/-! ### the def that calls what it got -/
/-- x() within a try, x the lambda handed in (slot 0) -/
def tAct (f c' : Addr) (q : Str) (tl : XK → Hp → VK → Prop) (W : WX) : TE := fun σ H Q => ∃ Ech : XK, (∀ cls d σ' H', Ech cls d H' → W cls d σ' H') ∧ σ[0]? = some (some (.ref f)) ∧ H c' = some (CodeO c' q) ∧ tl Ech H Q
theorem pe_actE {Y : Cx} {f c' : Addr} {q : Str} {tl : XK → Hp → VK → Prop} {W : WX} {e : Expr}
    (act : ∀ E : XK, (∀ cls d σ' H', E cls d H' → W cls d σ' H') → PE Y e (fun σZ HZ Q => σZ[0]? = some (some (.ref f)) ∧ HZ c' = some (CodeO c' q) ∧ tl E HZ Q)) : PE Y e (tAct f c' q tl W) :=
  ⟨fun pins s σ H Q I ⟨Ech, hW, h1, h2, h3⟩ => (act Ech hW).run pins s σ H Q I ⟨h1, h2, h3⟩⟩
/-! ### the lambda's body: a call of a def that may raise -/
theorem lam_takes {X : Cx} {A : Around} {outer : List Env} {s : Shared} {H : Hp} {E : XK} {scope : Scope} {f c' : Addr} : L2N.Takes (lamCxN X A outer s H E scope f c') (fun cls d _ H => E cls d H) :=
  L2N.takes_of rfl rfl rfl rfl
/-! ### the end of a law row: tables stand beside the script -/
theorem glawT {P : Program} {w : World} {K : PySem.W.Frag} {mg mb : Str → Option Value} {k : Nat} {fa a : Addr} {fd : FuncData} {x : Str} {sp : Sp} {s₁ : Shared} {vs : List Value} {ns : List Int} (cs : List (Addr × Addr))
    (KX : K.In s₁.heap) (hns : s₁.heap.Ns mainGlobals mg) (hb : s₁.heap.Ns builtinsNs mb) (hbb : ∀ x : Str, x ≠ "__name__" → mb x = bootBuiltins x) (hlim : s₁.heap.NoLimit) (hg : s₁.gens = #[])
    (hT : ∀ p ∈ cs, s₁.heap.get? p.2 = some { cls := .none, data := .fields #[] }) (nT : ∀ p ∈ cs, K.lookup p.2 = none) (hC : ∀ p ∈ cs, PySem.W.CodeHd s₁.heap p.1 p.2)
    (hbm : ∃ (bm : Addr) (ob : Obj), mg "__builtins__" = some (.ref bm) ∧ bm ≠ builtinsNs ∧ s₁.heap.get? bm = some ob ∧ ob.cls = .type "module" ∧ ob.dict = some builtinsNs ∧ ob.data = .plain)
    (ha : s₁.heap.get? a = some { cls := .type "list", data := .seq vs.toArray }) (hi : IntsAre vs ns) (hl : ns.length ≤ sizeLine) (hr : Room k callerA)
    (F : ∀ base : Heap, K.In base → base.Ns mainGlobals mg → (∀ p ∈ cs, TabB base mg p.1 p.2) → FnG P w K mg base k fa fd [x] sp) (hbind : ∀ (s : Shared) (u : Value), BindsTo s fd ⟨[u], []⟩ [(x, u)])
    (hsp : ∀ H : Hp, (∀ p ∈ cs, H p.2 = some (.tbl #[])) → SqL K H a (ns.map V.int) → sp [.ref a] H (fun v _ => v = .bl true) fun _ _ _ => False) :
    codeAny (model P w) callerA (.call (.ref fa) ⟨[.ref a], []⟩) (fun r s' => r = .ok (.ret (.bool true)) ∧ OldK s₁.heap s'.heap ∧ s'.os = s₁.os ∧ AllBare s'.gens) s₁ := by
  have rv := vals_ints hi
  let tabs : List Addr := cs.map (·.2)
  have tabAt : ∀ b ∈ tabs, s₁.heap.get? b = some { cls := .none, data := .fields #[] } := by
    intro b hb'
    obtain ⟨p, hp, rfl⟩ := List.mem_map.mp hb'
    exact hT p hp
  have tabIn : ∀ p ∈ cs, p.2 ∈ tabs := fun p hp => List.mem_map.mpr ⟨p, hp, rfl⟩
  have aOff : a ∉ tabs := by
    intro m
    have e := (tabAt a m).symm.trans ha
    have e2 := congrArg (fun o => (Option.map Obj.data o)) e
    simp at e2
  have heart : ∀ H : Hp, (∀ p ∈ cs, H p.2 = some (.tbl #[])) → (∀ b u, H b = some u → (b ∈ tabs ∧ u = .tbl #[]) ∨ (b = a ∧ ∃ o xs, u = .frz o (.lst xs))) → SqL K H a (ns.map V.int) → HOk P w H s₁.heap → (H a ≠ none → K.lookup a = none) →
      codeAny (model P w) callerA (.call (.ref fa) ⟨[.ref a], []⟩) (fun r s' => r = .ok (.ret (.bool true)) ∧ OldK s₁.heap s'.heap ∧ s'.os = s₁.os ∧ AllBare s'.gens) s₁ := by
    intro H hH hO hS hok hK
    have stays : ∀ {b : Addr} {o : Obj}, s₁.heap.get? b = some o → H b = none → (hidT s₁.heap H).get? b = some o := fun q n => hidT_get q n
    have off : ∀ {b : Addr} {o : Obj}, s₁.heap.get? b = some o → (∀ us n, o.data ≠ .seq us n) → o.data ≠ .fields #[] → H b = none := by
      intro b o q d1 d2
      cases z : H b with
      | none => rfl
      | some u =>
        rcases hO b u z with ⟨m, _⟩ | ⟨e, _⟩
        · have eo := Option.some.inj (q.symm.trans (tabAt b m))
          rw [eo] at d2
          exact absurd rfl d2
        · rw [e] at q
          have eo := Option.some.inj (q.symm.trans ha)
          rw [eo] at d1
          exact absurd rfl (d1 _ _)
    have dictOff : ∀ {b : Addr} {o : Obj} {es : Array DictEntry} {ep : Nat}, s₁.heap.get? b = some o → o.data = .dict es ep → H b = none := fun q d => off q (fun _ _ z => by rw [d] at z; cases z) (fun z => by rw [d] at z; cases z)
    have nsIn : ∀ {b : Addr} {m : Str → Option Value}, s₁.heap.Ns b m → (hidT s₁.heap H).Ns b m := fun ⟨o, es, ep, q, d, r⟩ => ⟨o, es, ep, stays q (dictOff q d), d, r⟩
    have kIn : K.In (hidT s₁.heap H) := by
      intro b o q
      refine stays (KX b o q) ?_
      cases z : H b with
      | none => rfl
      | some u =>
        rcases hO b u z with ⟨m, _⟩ | ⟨e, _⟩
        · obtain ⟨p, hp, ep⟩ := List.mem_map.mp m
          have := nT p hp
          rw [ep, q] at this
          cases this
        · subst e
          have := hK (by rw [z]; exact fun y => nomatch y)
          rw [this] at q
          exact nomatch q
    have hM : Mod K mg (hidT s₁.heap H) := by
      obtain ⟨mc, l1, l2⟩ := hlim
      exact ⟨kIn, nsIn hns, ⟨mb, nsIn hb, hbb⟩, ⟨mc, nsIn l1, l2⟩⟩
    have hTB : ∀ p ∈ cs, TabB (hidT s₁.heap H) mg p.1 p.2 := by
      intro p hp
      have hTp := hT p hp
      refine ⟨?_, ?_, fun z => ?_⟩
      · obtain ⟨o, us, file, tf, flags, tg, inF, text, tt, e1, r1, r2, r3, rest⟩ := hC p hp
        refine ⟨o, us, file, tf, flags, tg, inF, text, tt, stays e1 (off e1 (fun _ _ z => by rw [r2] at z; cases z) (fun z => ?_)), r1, r2, r3, rest⟩
        rw [r2] at z
        cases z
        simp at r3
      · obtain ⟨bm, ob, b1, b2, b3, b4, b5, b6⟩ := hbm
        have nG : bm ≠ mainGlobals := by
          intro q
          obtain ⟨o, es, ep, e, hd, _⟩ := hns
          rw [q, e] at b3
          cases b3
          rw [hd] at b6
          cases b6
        have nP : bm ≠ p.2 := by
          intro q
          rw [q, hTp] at b3
          cases b3
          cases b6
        exact ⟨bm, ob, b1, b2, nG, nP, stays b3 (off b3 (fun _ _ z => by rw [b6] at z; cases z) (fun z => by rw [b6] at z; cases z)), b4, b5, b6⟩
      · obtain ⟨o, es, ep, e, hd, _⟩ := hns
        rw [z, hTp] at e
        cases e
        cases hd
    have e0 : Env0 P w K mg (hidT s₁.heap H) callerA [] s₁ H :=
      ⟨rfl, hM, fun b o q => of_hidT q, Nat.le_of_eq (hidT_size _ _), trivial, fun b hb => absurd (show b ∈ ([] : List Addr) from hb) List.not_mem_nil, hok, .of_eq hg⟩
    refine codeAny_mono ((F _ kIn (nsIn hns) hTB).goes callerA [] s₁ H ⟨[.ref a], []⟩ [.ref a] [.ref a] _ _ rfl hr e0 (hbind s₁ (.ref a)) (.cons rfl .nil) (hsp H hH hS)) ?_
    intro r s' h
    cases r with
    | error e => exact h.elim
    | ok fl =>
      cases fl with
      | next => exact h.elim
      | brk => exact h.elim
      | cont => exact h.elim
      | ret u =>
        obtain ⟨v, H', os, bare, un, hok', rr, q⟩ := h
        have q' : v = V.bl true := q
        subst q'
        have eu : u = Value.bool true := rr
        subst eu
        have grown : ∀ p ∈ cs, ∃ more : Array Value, s'.heap.get? p.2 = some { cls := .none, data := .fields more } := by
          intro p hp
          obtain ⟨more, z⟩ := un.tbls p.2 #[] (hH p hp)
          exact ⟨_, hok' p.2 _ z⟩
        have kept : ∀ b o, b ∉ tabs → s₁.heap.get? b = some o → s'.heap.get? b = some o := by
          intro b o nb q
          cases z : H b with
          | none => exact un.keep b o q z (fun y => absurd (show b ∈ ([] : List Addr) from y) List.not_mem_nil) (fun y => absurd y List.not_mem_nil)
          | some u =>
            rcases hO b u z with ⟨m, _⟩ | ⟨_, ob, xs, y⟩
            · exact absurd m nb
            · subst y
              obtain ⟨e1, _⟩ := hok b _ z
              obtain ⟨e2, _⟩ := hok' b _ (un.frzs b ob _ z)
              have eo := Option.some.inj (q.symm.trans e1)
              rw [eo]
              exact e2
        refine ⟨rfl, ⟨fun b o q => ?_, fun b o q => ?_⟩, os, bare⟩
        · by_cases m : b ∈ tabs
          · obtain ⟨p, hp, ep⟩ := List.mem_map.mp m
            obtain ⟨more, hm⟩ := grown p hp
            rw [← ep] at q ⊢
            rw [hT p hp] at q
            cases q
            exact .inr (.inl ⟨((hC p hp).tab (hT p hp)).isCodeTable, rfl, #[], more, rfl, by rw [Array.empty_append]; exact hm⟩)
          · exact .inl (kept b o m q)
        · by_cases m : b ∈ tabs
          · obtain ⟨p, hp, ep⟩ := List.mem_map.mp m
            obtain ⟨more, hm⟩ := grown p hp
            rw [← ep]
            exact ⟨_, hm⟩
          · exact ⟨o, kept b o m q⟩
  let H0 : Hp := fun b => if b ∈ tabs then some (.tbl #[]) else none
  have H0t : ∀ b ∈ tabs, H0 b = some (.tbl #[]) := fun b m => if_pos m
  have H0n : ∀ b, b ∉ tabs → H0 b = none := fun b m => if_neg m
  cases hk : K.lookup a with
  | some o =>
    have eo := Option.some.inj ((KX a o hk).symm.trans ha)
    subst eo
    refine heart H0 (fun p hp => H0t _ (tabIn p hp)) (fun b u z => ?_) (.inr ⟨_, vs.toArray, _, hk, rfl, rfl, rfl, by rw [List.size_toArray, hi.length]; exact hl, by simpa using rv⟩) (fun b u z => ?_) (fun z => absurd (H0n a aOff) z)
    · by_cases m : b ∈ tabs
      · rw [H0t b m] at z
        cases z
        exact .inl ⟨m, rfl⟩
      · rw [H0n b m] at z
        cases z
    · by_cases m : b ∈ tabs
      · rw [H0t b m] at z
        cases z
        exact tabAt b m
      · rw [H0n b m] at z
        cases z
  | none =>
    let fz : HO := .frz { cls := .type "list", data := .seq vs.toArray } (.lst (ns.map V.int))
    let H1 : Hp := fun b => if b = a then some fz else H0 b
    have H1a : H1 a = some fz := if_pos rfl
    have H1n : ∀ b, b ≠ a → H1 b = H0 b := fun b m => if_neg m
    have ne : ∀ b ∈ tabs, b ≠ a := fun b m z => aOff (by rw [← z]; exact m)
    refine heart H1 (fun p hp => by rw [H1n _ (ne _ (tabIn p hp))]; exact H0t _ (tabIn p hp)) (fun b u z => ?_) (.inl (.inr ⟨{ cls := .type "list", data := .seq vs.toArray }, H1a⟩)) (fun b u z => ?_) (fun _ => hk)
    · by_cases e : b = a
      · rw [e, H1a] at z
        cases z
        exact .inr ⟨e, _, _, rfl⟩
      · rw [H1n b e] at z
        by_cases m : b ∈ tabs
        · rw [H0t b m] at z
          cases z
          exact .inl ⟨m, rfl⟩
        · rw [H0n b m] at z
          cases z
    · by_cases e : b = a
      · rw [e, H1a] at z
        cases z
        rw [e]
        exact ⟨ha, by rw [List.length_map]; exact hl, vs, _, rv, ha⟩
      · rw [H1n b e] at z
        by_cases m : b ∈ tabs
        · rw [H0t b m] at z
          cases z
          exact tabAt b m
        · rw [H0n b m] at z
          cases z
theorem gwalkT {l : PySem.W.OpenLaw} {n k : Nat} {q : Program} {loose : List Str} {XP : (Str → Option Value) → Heap → Prop} {YP : World → Heap → Prop} {d : DefRec} {K : Params → PySem.W.Frag} {x : Str}
    (hn : l.most = some n) (hn2 : n ≤ sizeLine) (hdf : d.params.defaults = []) (hr : Room k callerA) (hY : ∀ (w : World) (h : Heap), YP w h → (K w.params).In h)
    (F : ∀ (w : World) (mg : Str → Option Value) (fa : Addr) (h : Heap), YP w h → (K w.params).In h → h.Ns mainGlobals mg → mg d.name = some (.ref fa) →
      ∃ (fd : FuncData) (cs : List (Addr × Addr)) (sp : Sp), (∀ p ∈ cs, h.get? p.2 = some { cls := .none, data := .fields #[] }) ∧ (∀ p ∈ cs, (K w.params).lookup p.2 = none) ∧ (∀ p ∈ cs, PySem.W.CodeHd h p.1 p.2) ∧ (∀ (s : Shared) (u : Value), BindsTo s fd ⟨[u], []⟩ [(x, u)]) ∧
        (∀ (H : Hp) (a : Addr) (ns : List Int), ns.length ≤ n → (∀ p ∈ cs, H p.2 = some (.tbl #[])) → SqL (K w.params) H a (ns.map V.int) → sp [.ref a] H (fun v _ => v = .bl true) fun _ _ _ => False) ∧
        ∀ base : Heap, (K w.params).In base → base.Ns mainGlobals mg → (∀ p ∈ cs, TabB base mg p.1 p.2) → FnG l.prog w (K w.params) mg base k fa fd [x] sp) :
    PySem.W.WalkO q loose XP YP l.row.toRowW d [] (fun f vs => PySem.call f vs) := by
  refine Att.attach_callB hn hdf fun w s₀ s₁ mg mb fa o pm cd doc a vs ns G Y ho hd hcd hmg hobj hints hlen _ hg => ?_
  have KX := hY w _ Y
  obtain ⟨fd, cs, sp, h1, h2, h3, h4, h5, h6⟩ := F w mg fa _ Y KX G.T.g hmg
  exact glawT cs KX G.T.g G.T.b G.T.builtins G.T.nolimit hg h1 h2 h3 G.T.bmain hobj hints (Nat.le_trans hlen hn2) hr h6 h4 fun H hH hS => h5 H a ns hlen hH hS
/-! ### a def that calls the lambda it gets, by its name -/
structure CalL (P : Program) (w : World) (K : PySem.W.Frag) (mg : Str → Option Value) (base : Heap) (x : Str) (TT : (XK → Hp → VK → Prop) → Hp → VK → Prop) : Prop where
  ex : ∃ (g : Addr) (oc : Value) (od : Option Addr) (kV doc pm : Value) (an : Option Addr) (cdv ct : Value) (osl : Array (Option Value)) (st : Stmt) (Ng : List Str) (a : Str),
    K.lookup g = some ⟨oc, od, .func (PySem.W.fnOf x x (L2.defArgs st) (L2.defBody st) (L2.defScope st) .none kV doc pm an cdv ct), osl⟩ ∧ PySem.W.codeIn K cdv x = true ∧ PySem.W.keepIn K (.ref g) = true ∧ mg x = some (.ref g) ∧
    Binds K (PySem.W.fnOf x x (L2.defArgs st) (L2.defBody st) (L2.defScope st) .none kV doc pm an cdv ct) [a] [] ∧ FnScope Ng [a] (L2.defScope st) ∧ Ng[0]? = some a ∧ Vis (L2.defScope st) a ∧ (a == ("__debug__" : Str)) = false ∧ (a == ("__classdict__" : Str)) = false ∧
    ∀ (X : Cx) (q : Str), X.prog = P → X.w = w → X.K = K → X.mg = mg → X.base = base → GivesToN X Ng x (L2.defScope st) g cdv (L2.defBody st) a q TT
theorem pe_l {X : Cx} {T : List (Addr × Str)} {TT : (XK → Hp → VK → Prop) → Hp → VK → Prop} {x : Str} {c P : Addr} (k : Nat) {j : Nat} {params : Arguments} {body : Expr} {scope : Scope} {t : XK → TE} {p lpos pos : Pos} (cl : CalL X.prog X.w X.K X.mg X.base x TT) (hg : Gl X x)
    (TB : TabB X.base X.mg c P) (hcode : X.env.code = .ref c) (hmT : T = [(P, X.env.qual ++ "<lambda>")]) (hr : Room j X.A) (hk : k + 2 ≤ j) (L : LamS X.env.scope scope) (hdef : defaultsOf params X.env = ([], []))
    (hbind : ∀ (q : Str) (cl : List (Str × Addr)) (pm cv ctv : Value), bindArgs (PySem.W.kla_fn "<lambda>" q params body scope cl pm cv ctv) ⟨[], []⟩ = pure [])
    (hbody : ∀ (A : Around) (outer : List Env) (s : Shared) (H : Hp) (E : XK) (f c' : Addr), Room k (A.deeper (lamEnv X scope s.heap.objs.size f c')) → PE (lamCxN X A outer s H E scope f c') body (t E))
    (hdb : (x == ("__debug__" : Str)) = false := by decide) :
    PE X (.Call (.Name x p) [.Lambda params body scope lpos] [] pos) (tLam T TT t) := by
  obtain ⟨g, oc, od, kV, doc, pm, an, cdv, ct, osl, st, Ng, a, lk, hcd, kp, hm, b, S, h0, hv, hd, hcl, hG⟩ := cl.ex
  subst hmT
  exact pe_lamcallN (k := k) hg hm kp lk hcd b S h0 hv (hG X _ rfl rfl rfl rfl rfl) TB hcode (by simp) (fun p hp _ => by rw [List.mem_singleton.mp hp]) (hr.mono hk) L hdef hbind hbody hdb hd hcl
theorem calL_of {P : Program} {w : World} {K : PySem.W.Frag} {mg : Str → Option Value} {base : Heap} {x a : Str} {st : Stmt} {N : List Str} {TT : (XK → Hp → VK → Prop) → Hp → VK → Prop} (D : Def K mg x st) (S : FnScope N [a] (L2.defScope st)) (h0 : N[0]? = some a) (hv : Vis (L2.defScope st) a)
    (bd : ∀ (kV doc pm : Value) (an : Option Addr) (cdv ct : Value) (us : List Value), us.length = ([a] : List Str).length → bindArgs (PySem.W.fnOf x x (L2.defArgs st) (L2.defBody st) (L2.defScope st) .none kV doc pm an cdv ct) ⟨us, []⟩ = pure (([a] : List Str).zip us))
    (body : ∀ (X : Cx) (q : Str), X.prog = P → X.w = w → X.K = K → X.mg = mg → X.base = base → ∀ (g : Addr) (cdv : Value) (f c' : Addr) (s : Shared) (H : Hp) (Q : VK) (tl : XK → Hp → VK → Prop),
      (∀ (W : WX) (pn : List (Addr × Obj)) (xe : Value → Shared → Prop) (E : XK) (p1 p2 : Pos), L2N.Takes ((cxOf L2.CX0 P w K mg base N x (L2.defScope st) g cdv X.A X.stack s H L2.E0).tr pn xe) W → (∀ cls d σ' H', E cls d H' → W cls d σ' H') →
        PE ((cxOf L2.CX0 P w K mg base N x (L2.defScope st) g cdv X.A X.stack s H L2.E0).tr pn xe) (.Call (.Name a p1) [] [] p2) (fun σZ HZ Q => σZ[0]? = some (some (.ref f)) ∧ HZ c' = some (CodeO c' q) ∧ tl E HZ Q)) →
      H c' = some (CodeO c' q) → TT tl H Q → ∃ t, PSs (cxOf L2.CX0 P w K mg base N x (L2.defScope st) g cdv X.A X.stack s H L2.E0).nox (L2.defBody st) t ∧ t { nx := fun _ H' => Q .non H', rt := Q } (L2.start N [.ref f]) H)
    (hd : (a == ("__debug__" : Str)) = false := by decide) (hcl : (a == ("__classdict__" : Str)) = false := by decide) : CalL P w K mg base x TT := by
  obtain ⟨g, fd, F, hm⟩ := D.ex
  obtain ⟨oc, od, kV, doc, pm, an, cdv, ct, osl, rfl, lk, hcd⟩ := F.ex
  refine ⟨g, oc, od, kV, doc, pm, an, cdv, ct, osl, st, N, a, lk, hcd, F.kp, hm, .all (bd kV doc pm an cdv ct), S, h0, hv, hd, hcl, ?_⟩
  intro X q e1 e2 e3 e4 e5
  subst e1 e2 e3 e4 e5
  intro f c' s H Q tl act hc h
  exact body X q rfl rfl rfl rfl rfl g cdv f c' s H Q tl (fun W pn xe E p1 p2 tk hW => act W pn xe E p1 p2 tk hW) hc h
theorem lam_scope {sc0 sc scope : Scope} (e : sc0 = sc) (h : lamSB sc scope = true) : LamS sc0 scope := by
  rw [e]
  exact lamS_by h
end Ft

set_option Elab.async false
set_option linter.all false
set_option maxRecDepth 100000
set_option maxHeartbeats 4000000
namespace Ft
open PySem PySem.Spec PyProof.Rows L2
open LamX (TabB TabS Tabs ExtN CodeO)
/-! ### data of small numbers and short texts: what repr shows of it -/
def shortS (z : Str) : Bool := decide (z.cps.size ≤ 32) && z.cps.toList.all fun c => decide (c < 16 ^ 8)
mutual
def tame : PyData → Bool
  | .int i => decide (i.natAbs ≤ 1000)
  | .str z => shortS z
  | .list ds => tames ds
  | .tuple ds => tames ds
  | .dict _ => false
  | .none => true
  | .bool _ => true
def tames : List PyData → Bool
  | [] => true
  | d :: ds => tame d && tames ds
end
mutual
def nodes : PyData → Nat
  | .list ds => 1 + nodess ds
  | .tuple ds => 1 + nodess ds
  | _ => 1
def nodess : List PyData → Nat
  | [] => 0
  | d :: ds => nodes d + nodess ds
end
theorem tame_pos : ∀ n : Fin 1001, (PyData.int ((n.1 : Nat) : Int)).showable = true ∧ (PyData.int ((n.1 : Nat) : Int)).leavesShort 13 = true ∧ (PyData.int ((n.1 : Nat) : Int)).weight ≤ 11 := by decide +kernel
theorem tame_neg : ∀ n : Fin 1001, (PyData.int (-((n.1 : Nat) : Int))).showable = true ∧ (PyData.int (-((n.1 : Nat) : Int))).leavesShort 13 = true ∧ (PyData.int (-((n.1 : Nat) : Int))).weight ≤ 11 := by decide +kernel
theorem tame_int {i : Int} (h : i.natAbs ≤ 1000) : (PyData.int i).showable = true ∧ (PyData.int i).leavesShort 13 = true ∧ (PyData.int i).weight ≤ 11 := by
  rcases Int.natAbs_eq i with e | e
  · rw [e]
    exact tame_pos ⟨i.natAbs, by omega⟩
  · rw [e]
    exact tame_neg ⟨i.natAbs, by omega⟩
mutual
theorem tame_facts : ∀ d : PyData, tame d = true → d.showable = true ∧ d.leavesShort 13 = true ∧ d.weight + 1 ≤ 33 * nodes d
  | .none, _ => by simp [PyData.showable, PyData.leavesShort, PyData.weight, nodes]
  | .bool _, _ => by simp [PyData.showable, PyData.leavesShort, PyData.weight, nodes]
  | .int i, h => by
    simp only [tame, decide_eq_true_eq] at h
    obtain ⟨a, b, c⟩ := tame_int h
    refine ⟨a, b, ?_⟩
    simp only [nodes]
    omega
  | .str z, h => by
    simp only [tame, shortS, Bool.and_eq_true, decide_eq_true_eq] at h
    simp only [PyData.showable, PyData.leavesShort, PyData.weight, nodes]
    exact ⟨trivial, h.2, by have := h.1; omega⟩
  | .list ds, h => by
    simp only [tame] at h
    obtain ⟨a, b, c⟩ := tames_facts ds h
    simp only [PyData.showable, PyData.leavesShort, PyData.weight, nodes]
    exact ⟨a, b, by omega⟩
  | .tuple ds, h => by
    simp only [tame] at h
    obtain ⟨a, b, c⟩ := tames_facts ds h
    simp only [PyData.showable, PyData.leavesShort, PyData.weight, nodes]
    exact ⟨a, b, by omega⟩
  | .dict _, h => by simp [tame] at h
theorem tames_facts : ∀ ds : List PyData, tames ds = true → PyData.showableAll ds = true ∧ PyData.leavesShortAll 13 ds = true ∧ PyData.weightAll ds ≤ 33 * nodess ds
  | [], _ => by simp [PyData.showableAll, PyData.leavesShortAll, PyData.weightAll]
  | d :: ds, h => by
    simp only [tames, Bool.and_eq_true] at h
    obtain ⟨a1, b1, c1⟩ := tame_facts d h.1
    obtain ⟨a2, b2, c2⟩ := tames_facts ds h.2
    simp only [PyData.showableAll, PyData.leavesShortAll, PyData.weightAll, nodess, a1, a2, b1, b2]
    exact ⟨rfl, rfl, by omega⟩
end
theorem shows_tame {d : PyData} (h : tame d = true) (few : nodes d ≤ 20000) (dp : d.depth ≤ 60) : Shows d := by
  obtain ⟨a, b, c⟩ := tame_facts d h
  exact ⟨a, b, by omega, dp⟩
/-! ### what stays where all but tables stay -/
theorem ext_sqT {K : PySem.W.Frag} {H H' : Hp} (e : ExtN H H') {a : Addr} {xs : List V} (h : SqT K H a xs) : SqT K H' a xs := by
  rcases h with (h | ⟨o, h⟩) | h
  · exact .inl (.inl (e _ _ h fun ps z => by cases z))
  · exact .inl (.inr ⟨o, e _ _ h fun ps z => by cases z⟩)
  · exact .inr h
theorem ext_sqL {K : PySem.W.Frag} {H H' : Hp} (e : ExtN H H') {a : Addr} {xs : List V} (h : SqL K H a xs) : SqL K H' a xs := by
  rcases h with (h | ⟨o, h⟩) | h
  · exact .inl (.inl (e _ _ h fun ps z => by cases z))
  · exact .inl (.inr ⟨o, e _ _ h fun ps z => by cases z⟩)
  · exact .inr h
mutual
theorem dp_ext {K : PySem.W.Frag} {H H' : Hp} (e : ExtN H H') : ∀ (d : PyData) (v : V), Dp K H v d → Dp K H' v d
  | .none, _, h => by cases h; exact .non
  | .bool _, _, h => by cases h; exact .bl _
  | .int _, _, h => by cases h; exact .int _
  | .str _, _, h => by cases h; exact .str _
  | .list ds, _, h => by
    cases h with
    | lst h a => exact .lst (ext_sqL e h) (dp_exts e ds _ a)
  | .tuple ds, _, h => by
    cases h with
    | tup h a => exact .tup (ext_sqT e h) (dp_exts e ds _ a)
  | .dict _, _, h => by cases h
theorem dp_exts {K : PySem.W.Frag} {H H' : Hp} (e : ExtN H H') : ∀ (ds : List PyData) (vs : List V), DpAll K H vs ds → DpAll K H' vs ds
  | [], _, h => by cases h; exact .nil
  | d :: ds, _, h => by
    cases h with
    | cons h1 h2 => exact .cons (dp_ext e d _ h1) (dp_exts e ds _ h2)
end
theorem ext_same {H H' : Hp} (s : Same H H') : ExtN H H' := ExtN.of fun b o h => s b o h
theorem ext_chart {K : PySem.W.Frag} {H H' : Hp} (e : ExtN H H') {c : Addr} {C : Chart} (h : IsChart K H c C) : IsChart K H' c C := by
  obtain ⟨c2, e2, h2⟩ := chart_dp (dp_ext e _ _ (dp_chart h))
  cases e2
  exact h2
theorem tabs_same {T : List (Addr × Str)} {H H' : Hp} (t : Tabs T H) (s : Same H H') : Tabs T H' := t.ext fun b o h => s b o h
/-- lists change, tables don't -/
theorem tabs_kp {T : List (Addr × Str)} {H H' : Hp} {ex : List Addr} (t : Tabs T H) (k : Kp ex H H') (l : ∀ b ∈ ex, ∃ xs, H b = some (.lst xs)) : Tabs T H' := by
  intro p hp
  obtain ⟨ps, h1, h2, h3⟩ := t p hp
  have n1 : p.1 ∉ ex := fun m => by
    obtain ⟨xs, e⟩ := l _ m
    rw [h1] at e
    cases e
  refine ⟨ps, k _ _ n1 h1, h2, fun pos cv hc => ?_⟩
  obtain ⟨c, e1, e2⟩ := h3 pos cv hc
  have n2 : c ∉ ex := fun m => by
    obtain ⟨xs, e⟩ := l _ m
    rw [e2] at e
    unfold LamX.CodeO at e
    cases e
  exact ⟨c, e1, k _ _ n2 e2⟩
/-! ### tuples joined and cut -/
theorem catA_of {K : PySem.W.Frag} {a b : Addr} {xs ys : List V} {H : Hp} {Q : VK} (hx : SqT K H a xs) (hy : SqT K H b ys) (hl : xs.length + ys.length ≤ 1000) (q : ∀ p H', Same H H' → SqT K H' p (xs ++ ys) → Q (.ref p) H') : rCatA K (.ref a) (.ref b) H Q := by
  have big : (1000 : Nat) ≤ sizeLine := by decide
  refine ⟨a, b, xs, ys, rfl, rfl, hx, hy, by omega, fun e => ?_, fun _ e => ?_, fun _ _ p hp => ?_⟩
  · subst e
    exact q b H (fun _ _ h => h) hy
  · subst e
    exact q a H (fun _ _ h => h) (by rw [List.append_nil]; exact hx)
  · exact q p _ (same_upd hp) (.inl (.inl upd_same))
def cutG {α : Type} (l : List α) (lo hi : Option Int) : List α := (l.drop (HT.sIx l.length 0 lo)).take (HT.sIx l.length l.length hi - HT.sIx l.length 0 lo)
theorem slA_of {K : PySem.W.Frag} {a : Addr} {xs : List V} {lo hi : Option Int} {H : Hp} {Q : VK} (h : SqT K H a xs) (q : ∀ p H', Same H H' → SqT K H' p (cutG xs lo hi) → Q (.ref p) H') : rSlA K (.ref a) lo hi H Q := by
  refine ⟨a, xs, rfl, h, fun ⟨e1, e2⟩ => ?_, fun _ p hp => q p _ (same_upd hp) (.inl (.inl upd_same))⟩
  refine q a H (fun _ _ h => h) ?_
  have : cutG xs lo hi = xs := by
    unfold cutG
    rw [e1, e2]
    simp
  rw [this]
  exact h
theorem no_part {σ : L2.St} {H : Hp} {k : Option Int → Hp → Prop} (h : k none H) : tNoPart σ H k := h
theorem cutG_take {α : Type} {l : List α} {k : Nat} : cutG l none (some (k : Int)) = l.take k := by
  unfold cutG
  rw [HT.sIx_none, HT.sIx_nat]
  simp only [List.drop_zero, Nat.sub_zero]
  rcases Nat.le_total k l.length with h | h
  · rw [Nat.min_eq_left h]
  · rw [Nat.min_eq_right h, List.take_of_length_le (Nat.le_refl _), List.take_of_length_le h]
theorem cutG_drop {α : Type} {l : List α} {k : Nat} : cutG l (some (k : Int)) none = l.drop k := by
  unfold cutG
  rw [HT.sIx_none, HT.sIx_nat]
  rcases Nat.le_total k l.length with h | h
  · rw [Nat.min_eq_left h, List.take_of_length_le (by rw [List.length_drop]; exact Nat.le_refl _)]
  · rw [Nat.min_eq_right h, List.drop_eq_nil_of_le (Nat.le_refl _), List.drop_eq_nil_of_le h]
    simp
theorem cutG_init {α : Type} {l : List α} : cutG l none (some (-1)) = l.take (l.length - 1) := by
  unfold cutG
  rw [HT.sIx_none]
  have e : HT.sIx l.length l.length (some (-1)) = l.length - 1 := by
    show (if (-1 : Int) < 0 then ((-1 : Int) + (l.length : Int)).toNat else min (-1 : Int).toNat l.length) = l.length - 1
    rw [if_pos (by omega)]
    omega
  rw [e]
  simp
theorem dpAll_app {K : PySem.W.Frag} {H : Hp} : ∀ {xs ys : List V} {ds es : List PyData}, DpAll K H xs ds → DpAll K H ys es → DpAll K H (xs ++ ys) (ds ++ es)
  | _, _, _, _, .nil, h => h
  | _, _, _, _, .cons a t, h => .cons a (dpAll_app t h)
theorem dpAll_take {K : PySem.W.Frag} {H : Hp} : ∀ {k : Nat} {xs : List V} {ds : List PyData}, DpAll K H xs ds → DpAll K H (xs.take k) (ds.take k)
  | 0, _, _, _ => by simp only [List.take_zero]; exact .nil
  | _ + 1, _, _, .nil => .nil
  | k + 1, _, _, .cons a t => .cons a (dpAll_take t)
theorem dpAll_drop {K : PySem.W.Frag} {H : Hp} : ∀ {k : Nat} {xs : List V} {ds : List PyData}, DpAll K H xs ds → DpAll K H (xs.drop k) (ds.drop k)
  | 0, _, _, h => h
  | _ + 1, _, _, .nil => .nil
  | k + 1, _, _, .cons a t => dpAll_drop (k := k) t
end Ft

set_option Elab.async false
set_option linter.all false
set_option maxRecDepth 100000
set_option maxHeartbeats 4000000
/-! data that can be held against each other, and not too many -/
namespace Ft
open PySem PySem.Spec PyProof.Rows L2
theorem can_all : ∀ {ds : List PyData}, PyData.canLayAll0 ds = true ↔ ∀ e ∈ ds, PyData.canLay0 e = true
  | [] => ⟨fun _ _ h => (nomatch h), fun _ => by simp [PyData.canLayAll0]⟩
  | d :: ds => by
    simp only [PyData.canLayAll0, Bool.and_eq_true, can_all (ds := ds), List.mem_cons]
    exact ⟨fun h e he => he.elim (fun x => x ▸ h.1) (h.2 e), fun h => ⟨h _ (.inl rfl), fun e he => h e (.inr he)⟩⟩
theorem depth_mem : ∀ {ds : List PyData} {e : PyData}, e ∈ ds → e.depth ≤ PyData.depthAll ds
  | d :: ds, e, h => by
    simp only [PyData.depthAll]
    rcases List.mem_cons.mp h with rfl | h
    · omega
    · have := depth_mem h
      omega
theorem depth_all {n : Nat} : ∀ {ds : List PyData}, (∀ e ∈ ds, e.depth ≤ n) → PyData.depthAll ds ≤ n
  | [], _ => by simp only [PyData.depthAll]; omega
  | d :: ds, h => by
    simp only [PyData.depthAll]
    have h1 := h d List.mem_cons_self
    have h2 := depth_all fun e he => h e (List.mem_cons_of_mem _ he)
    omega
theorem nodes_pos : ∀ d : PyData, 1 ≤ nodes d := fun d => by cases d <;> simp only [nodes] <;> omega
theorem nodes_len : ∀ ds : List PyData, ds.length ≤ nodess ds
  | [] => by simp only [nodess]; exact Nat.le_refl _
  | d :: ds => by
    simp only [nodess, List.length_cons]
    have := nodes_pos d
    have := nodes_len ds
    omega
theorem nodes_mem : ∀ {ds : List PyData} {e : PyData}, e ∈ ds → nodes e ≤ nodess ds
  | d :: ds, e, h => by
    simp only [nodess]
    rcases List.mem_cons.mp h with rfl | h
    · omega
    · have := nodes_mem h
      omega
structure Fine (d : PyData) : Prop where
  sh : SeqAt.shaped d = true
  nd : nodes d ≤ 900
theorem shaped_iff {d : PyData} : SeqAt.shaped d = true ↔ d.canLay0 = true ∧ d.depth ≤ 64 := by
  unfold SeqAt.shaped
  rw [Bool.and_eq_true, decide_eq_true_eq]
theorem Fine.mem {ds : List PyData} {e : PyData} (h : Fine (.tuple ds)) (m : e ∈ ds) : Fine e := by
  obtain ⟨h1, h2⟩ := shaped_iff.mp h.sh
  have h3 := h.nd
  simp only [PyData.canLay0] at h1
  simp only [PyData.depth] at h2
  simp only [nodes] at h3
  have := depth_mem m
  have := nodes_mem m
  exact ⟨shaped_iff.mpr ⟨can_all.mp h1 e m, by omega⟩, by omega⟩
theorem Fine.len {ds : List PyData} (h : Fine (.tuple ds)) : ds.length ≤ 2000 := by
  have h3 := h.nd
  simp only [nodes] at h3
  have := nodes_len ds
  omega
theorem Fine.sub {ds es : List PyData} (h : Fine (.tuple ds)) (m : ∀ e ∈ es, e ∈ ds) : SeqAt.shaped (.list es) = true := by
  obtain ⟨h1, h2⟩ := shaped_iff.mp h.sh
  simp only [PyData.canLay0] at h1
  simp only [PyData.depth] at h2
  have h5 : PyData.depthAll es ≤ PyData.depthAll ds := depth_all fun e he => depth_mem (m e he)
  refine shaped_iff.mpr ⟨?_, ?_⟩
  · simp only [PyData.canLay0]
    exact can_all.mpr fun e he => can_all.mp h1 e (m e he)
  · simp only [PyData.depth]
    omega
/-- a list against the empty one -/
theorem eqv_nil {es : List PyData} : PyData.eqv (.list es) (.list []) = es.isEmpty := by
  cases es with
  | nil => rfl
  | cons e es => rfl
/-- the places of a tuple of places -/
def natsL : List PyData → Option (List Nat)
  | [] => some []
  | .int i :: r => if 0 ≤ i then (natsL r).map (i.toNat :: ·) else none
  | _ :: _ => none
theorem natsL_map : ∀ (l : List Nat), natsL (l.map nD) = some l
  | [] => rfl
  | a :: l => by
    show (if (0 : Int) ≤ (a : Int) then (natsL (l.map nD)).map (((a : Int)).toNat :: ·) else none) = _
    rw [if_pos (by omega), natsL_map l]
    rfl
theorem natsL_some : ∀ {ds : List PyData} {l : List Nat}, natsL ds = some l → ds = l.map nD
  | [], l, h => by cases h; rfl
  | d :: ds, l, h => by
    cases d with
    | int i =>
      simp only [natsL] at h
      split at h
      · rename_i h0
        cases e : natsL ds with
        | none => rw [e] at h; cases h
        | some m =>
          rw [e] at h
          cases h
          rw [List.map_cons, ← natsL_some e]
          congr 1
          show PyData.int i = .int (i.toNat : Int)
          rw [Int.toNat_of_nonneg h0]
      · cases h
    | _ => cases h
theorem natsL_none {ds : List PyData} (h : ∀ l : List Nat, ds ≠ l.map nD) : natsL ds = none := by
  cases e : natsL ds with
  | none => rfl
  | some l => exact absurd (natsL_some e) (h l)
end Ft

set_option Elab.async false
set_option linter.all false
set_option maxRecDepth 100000
set_option maxHeartbeats 4000000
/-! Expressions over data that change nothing: what data they give. -/
namespace Ft
open PySem PySem.Spec PyProof.Rows L2
def Gv (K : PySem.W.Frag) (σ : L2.St) (H : Hp) (t : TE) (d : PyData) : Prop := ∀ H1, Same H H1 → ∀ Q : VK, (∀ v H', Same H1 H' → Dp K H' v d → Q v H') → t σ H1 Q
def GvA (K : PySem.W.Frag) (σ : L2.St) (H : Hp) (t : TA) (ds : List PyData) : Prop := ∀ H1, Same H H1 → ∀ Q : List V → Hp → Prop, (∀ vs H', Same H1 H' → DpAll K H' vs ds → Q vs H') → t σ H1 Q
theorem Same.rfl' (H : Hp) : Same H H := fun _ _ h => h
section
variable {K : PySem.W.Frag} {σ : L2.St} {H : Hp} {t ta tb te : TE} {tr : TA} {d : PyData} {ds es : List PyData} {Q : VK}
theorem Gv.go (g : Gv K σ H t d) (q : ∀ v H', Same H H' → Dp K H' v d → Q v H') : t σ H Q := g H (Same.rfl' H) Q q
theorem Gv.same {H' : Hp} (s : Same H H') (g : Gv K σ H t d) : Gv K σ H' t d := fun H1 s1 Q q => g H1 (s.trans s1) Q q
theorem gv_int {i : Int} : Gv K σ H (tC (.int i)) (.int i) := fun H1 _ Q q => q _ H1 (Same.rfl' _) (.int _)
theorem gv_bl {b : Bool} : Gv K σ H (tC (.bl b)) (.bool b) := fun H1 _ Q q => q _ H1 (Same.rfl' _) (.bl _)
theorem gv_non : Gv K σ H (tC .non) .none := fun H1 _ Q q => q _ H1 (Same.rfl' _) .non
theorem gv_str {z : Str} : Gv K σ H (tC (.str z)) (.str z) := fun H1 _ Q q => q _ H1 (Same.rfl' _) (.str _)
theorem gv_var {i : Nat} {v : V} (e : σ[i]? = some (some v)) (h : Dp K H v d) : Gv K σ H (tVar i) d := fun H1 s Q q => ⟨v, e, q v H1 (Same.rfl' _) (Dp.same s h)⟩
theorem gv_neg {i : Int} (g : Gv K σ H t (.int i)) : Gv K σ H (tUn (rU fun i => V.int (-i)) t) (.int (-i)) := fun H1 s Q q => g H1 s _ fun v H' s' h => by
  cases dp_int h
  exact ⟨i, rfl, q _ H' s' (.int _)⟩
theorem gva_nil : GvA K σ H tNil [] := fun H1 _ Q q => q _ H1 (Same.rfl' _) .nil
theorem gva_cons (g : Gv K σ H t d) (gs : GvA K σ H tr ds) : GvA K σ H (tCons t tr) (d :: ds) := fun H1 s Q q => g H1 s _ fun v H2 s2 h => gs H2 (s.trans s2) _ fun vs H3 s3 hs => q _ H3 (s2.trans s3) (.cons (Dp.same s3 h) hs)
theorem gv_tup (g : GvA K σ H tr ds) (few : ds.length ≤ 1000) : Gv K σ H (tTup tr) (.tuple ds) := fun H1 s Q q => g H1 s _ fun vs H2 s2 hs => by
  have big : (1000 : Nat) ≤ sizeLine := by decide
  have len := dpAll_length hs
  exact ⟨by omega, fun p hp => q _ _ (s2.trans (same_upd hp)) (.tup (.inl (.inl upd_same)) (DpAll.same (same_upd hp) hs))⟩
theorem gv_lst (g : GvA K σ H tr ds) (few : ds.length ≤ 1000) : Gv K σ H (tLst tr) (.list ds) := fun H1 s Q q => g H1 s _ fun vs H2 s2 hs => by
  have big : (1000 : Nat) ≤ sizeLine := by decide
  have len := dpAll_length hs
  exact ⟨by omega, fun p hp => q _ _ (s2.trans (same_upd hp)) (.lst (.inl (.inl upd_same)) (DpAll.same (same_upd hp) hs))⟩
theorem gv_ixT {j : Nat} (g : Gv K σ H ta (.tuple ds)) (g2 : Gv K σ H tb (.int (j : Int))) (e : ds[j]? = some d) : Gv K σ H (tOp (rIxT K) ta tb) d := fun H1 s Q q => g H1 s _ fun v H2 s2 h => g2 H2 (s.trans s2) _ fun u H3 s3 h3 => by
  cases dp_int h3
  obtain ⟨a, xs, rfl, hs, ha⟩ := dp_tup (Dp.same s3 h)
  obtain ⟨x, hx, dx⟩ := dpAll_getD ha e
  exact ⟨a, xs, (j : Int), x, rfl, rfl, hs, atI_nat hx, q _ _ (s2.trans s3) dx⟩
theorem gv_cat (g : Gv K σ H ta (.tuple ds)) (g2 : Gv K σ H tb (.tuple es)) (few : ds.length + es.length ≤ 1000) : Gv K σ H (tOp (rCatA K) ta tb) (.tuple (ds ++ es)) := fun H1 s Q q => g H1 s _ fun v H2 s2 h => g2 H2 (s.trans s2) _ fun u H3 s3 h3 => by
  obtain ⟨a, xs, rfl, hs, ha⟩ := dp_tup (Dp.same s3 h)
  obtain ⟨b, ys, rfl, hs2, ha2⟩ := dp_tup h3
  exact catA_of hs hs2 (by rw [dpAll_length ha, dpAll_length ha2]; exact few) fun p H4 s4 hp => q _ _ ((s2.trans s3).trans s4) (.tup hp (dpAll_app (DpAll.same s4 ha) (DpAll.same s4 ha2)))
theorem dpAll_cut {H : Hp} {xs : List V} {lo hi : Option Int} (h : DpAll K H xs ds) : DpAll K H (cutG xs lo hi) (cutG ds lo hi) := by
  unfold cutG
  rw [dpAll_length h]
  exact dpAll_take (dpAll_drop h)
theorem gv_slTo {i : Int} (g : Gv K σ H te (.tuple ds)) (g2 : Gv K σ H tb (.int i)) : Gv K σ H (tSl (rSlA K) te tNoPart (tPart tb)) (.tuple (cutG ds none (some i))) := fun H1 s Q q => g H1 s _ fun v H2 s2 h => g2 H2 (s.trans s2) _ fun u H3 s3 h3 => by
  cases dp_int h3
  obtain ⟨a, xs, rfl, hs, ha⟩ := dp_tup (Dp.same s3 h)
  exact ⟨i, rfl, slA_of hs fun p H4 s4 hp => q _ _ ((s2.trans s3).trans s4) (.tup hp (dpAll_cut (DpAll.same s4 ha)))⟩
theorem gv_slFrom {i : Int} (g : Gv K σ H te (.tuple ds)) (g2 : Gv K σ H tb (.int i)) : Gv K σ H (tSl (rSlA K) te (tPart tb) tNoPart) (.tuple (cutG ds (some i) none)) := fun H1 s Q q => g H1 s _ fun v H2 s2 h => g2 H2 (s.trans s2) _ fun u H3 s3 h3 => by
  cases dp_int h3
  obtain ⟨a, xs, rfl, hs, ha⟩ := dp_tup (Dp.same s3 h)
  exact ⟨i, rfl, no_part (slA_of hs fun p H4 s4 hp => q _ _ ((s2.trans s3).trans s4) (.tup hp (dpAll_cut (DpAll.same s4 ha))))⟩
theorem gv_take {k : Nat} (g : Gv K σ H te (.tuple ds)) (g2 : Gv K σ H tb (.int (k : Int))) : Gv K σ H (tSl (rSlA K) te tNoPart (tPart tb)) (.tuple (ds.take k)) := by
  have := gv_slTo g g2
  rwa [cutG_take] at this
theorem gv_drop {k : Nat} (g : Gv K σ H te (.tuple ds)) (g2 : Gv K σ H tb (.int (k : Int))) : Gv K σ H (tSl (rSlA K) te (tPart tb) tNoPart) (.tuple (ds.drop k)) := by
  have := gv_slFrom g g2
  rwa [cutG_drop] at this
theorem gv_len (g : Gv K σ H t (.tuple ds)) : Gv K σ H (tCB (rLenS K) (tCons t tNil)) (.int (ds.length : Int)) := fun H1 s Q q => g H1 s _ fun v H2 s2 h => by
  obtain ⟨a, xs, rfl, hs, ha⟩ := dp_tup h
  have := q (.int ((xs.length : Nat) : Int)) H2 s2 (by rw [dpAll_length ha]; exact .int _)
  exact ⟨a, xs, rfl, .inr hs, this⟩
theorem gv_add {i j : Int} (g : Gv K σ H ta (.int i)) (g2 : Gv K σ H tb (.int j)) : Gv K σ H (tOp (rI0 fun i j => V.int (i + j)) ta tb) (.int (i + j)) := fun H1 s Q q => g H1 s _ fun v H2 s2 h => g2 H2 (s.trans s2) _ fun u H3 s3 h3 => by
  cases dp_int h
  cases dp_int h3
  exact ⟨i, j, rfl, rfl, q _ _ (s2.trans s3) (.int _)⟩
theorem gv_sub {i j : Int} (g : Gv K σ H ta (.int i)) (g2 : Gv K σ H tb (.int j)) : Gv K σ H (tOp (rI0 fun i j => V.int (i - j)) ta tb) (.int (i - j)) := fun H1 s Q q => g H1 s _ fun v H2 s2 h => g2 H2 (s.trans s2) _ fun u H3 s3 h3 => by
  cases dp_int h
  cases dp_int h3
  exact ⟨i, j, rfl, rfl, q _ _ (s2.trans s3) (.int _)⟩
/-! ### where they stand -/
theorem asg_gv {i : Nat} {D : Ends} (g : Gv K σ H te d) (q : ∀ v H', Same H H' → Dp K H' v d → D.nx (σ.set i (some v)) H') : tAsg te (gName i) D σ H := g.go q
theorem seq_gv {i : Nat} {D : Ends} {u : TS} (g : Gv K σ H te d) (q : ∀ v H', Same H H' → Dp K H' v d → u D (σ.set i (some v)) H') : tSeq (tAsg te (gName i)) u D σ H := g.go q
theorem lst_gv (g : GvA K σ H tr ds) (few : ds.length ≤ 1000) (q : ∀ p xs H', Same H H' → H' p = some (.lst xs) → DpAll K H' xs ds → Q (.ref p) H') : tLst tr σ H Q := g H (Same.rfl' H) _ fun vs H2 s2 hs => by
  have big : (1000 : Nat) ≤ sizeLine := by decide
  have len := dpAll_length hs
  exact ⟨by omega, fun p hp => q p vs _ (s2.trans (same_upd hp)) upd_same (DpAll.same (same_upd hp) hs)⟩
/-- for x in [..], a row of data -/
theorem for_lit {g : TG} {tb : TS} {D : Ends} (gs : GvA K σ H tr ds) (few : ds.length ≤ 1000) (q : ∀ p xs H1, Same H H1 → H1 p = some (.lst xs) → DpAll K H1 xs ds → ∃ Pv : Nat → L2.St → Hp → Prop, Pv 0 σ H1 ∧ (∀ i σ H, i ≤ xs.length → Pv i σ H → SqL K H p xs) ∧
      (∀ i x σ H, xs[i]? = some x → Pv i σ H → g x σ H fun σ2 H2 => tb { D with nx := Pv (i + 1), ct := Pv (i + 1), bk := D.nx } σ2 H2) ∧ ∀ σ H, Pv xs.length σ H → D.nx σ H) : tFor (iList K (tLst tr)) g tb D σ H := by
  have big : (1000 : Nat) ≤ sizeLine := by decide
  refine gs H (Same.rfl' H) _ fun xs H0 s0 hd0 => ⟨by have := dpAll_length hd0; omega, fun p hnew => ?_⟩
  have s1 := s0.trans (same_upd (o := .lst xs) hnew)
  have hp : (upd H0 p (.lst xs)) p = some (.lst xs) := upd_same
  obtain ⟨Pv, h0, hl, hs, hn⟩ := q p xs _ s1 hp (DpAll.same (same_upd hnew) hd0)
  exact ⟨p, rfl, ⟨xs, .inl (.inl hp)⟩, for_list Pv h0 hl hs hn⟩
end
end Ft

set_option Elab.async false
set_option linter.all false
set_option maxRecDepth 100000
set_option maxHeartbeats 8000000
namespace Ft
open PySem PySem.Spec PyProof.Rows L2
/-! tuple * int, once or more often -/
theorem tuple_mul1 (l : Addr) (items : Array Value) (n : Nat) (dd : Option Addr) (sl : Array (Option Value)) (u : Tok) :
    Meets (Builtin.«tuple.__mul__» ⟨[.ref l, .int 1 u], []⟩) (fun _ R s => s.heap.get? l = some { cls := .type "tuple", dict := dd, data := .seq items n, slots := sl } ∧ R (.ok (.ret (Value.ref l))) { s with heap := s.heap, toks := s.toks }) :=
  .of_wp fun prog w A R s h => by
    obtain ⟨hp, g, d, tk, os⟩ := s
    obtain ⟨hl, h⟩ := h
    have f1 := AutoSeq1.idx_int
    have c0 : (decide ((1 : Int) < -(2 ^ 63)) || decide ((1 : Int) ≥ 2 ^ 63)) = false := by decide
    have c1 : (items.isEmpty || (1 : Int) == 1) = true := by simp
    wp_walk using wpAny_loadPart' hl
    repeat (first
      | (refine wpAny_ite_false (decide_eq_false (by rw [c0]; exact Bool.false_ne_true)) ?_; wp_walk using wpAny_loadPart' hl)
      | (refine wpAny_ite_true (decide_eq_true (by rw [c1])) ?_; wp_walk using wpAny_loadPart' hl))
    exact ⟨_, rfl, h⟩
def rRep1 (K : PySem.W.Frag) : R2 := fun x y H Q => ∃ l xs, x = .ref l ∧ y = .int 1 ∧ SqT K H l xs ∧ Q (.ref l) H
theorem op_rep1 {X : Cx} : OpR X (binaryOp .Mult) (rRep1 X.K) := by
  intro pins s σ H x y v u Q I rx ry h
  obtain ⟨l, xs, rfl, rfl, hT, q⟩ := h
  have rx' := rx
  cases rx
  obtain ⟨t, rfl⟩ := ry
  obtain ⟨its, r, ⟨⟨cls, dd, data, sl⟩, ho, hc, n, hd⟩, hs⟩ := I.tuple hT
  simp only at hc hd
  subst hc hd
  refine wpAny_binaryOp_repeat_ref (T := "tuple") (U := "int") (by decide) ⟨_, ho, rfl⟩ (fun s' => typeIs_int s' 1 t) noFill_tuple_mul F.fills_int_mul F.slot_int_rmul repeat_tuple F.slot_int_index.lookup
    (call_meets F.slot_int_rmul (typeIs_int s 1 t) F.entry_int_rmul (F.args_int_rmul_2 _ _) (int_rmul_tuple 1 t l its.toArray n dd sl)
      ⟨ho, rfl, ⟨_, ho, rfl⟩, call_meets F.slot_tuple_mul ⟨_, ho, rfl⟩ F.entry_tuple_mul (F.args_tuple_mul_2 _ _) (tuple_mul1 l its.toArray n dd sl t) ⟨ho, ?_⟩⟩)
  exact ⟨.ref l, H, I.tok _, rfl, q⟩
def rRepA (K : PySem.W.Frag) : R2 := fun x y H Q => ∃ l k xs, x = .ref l ∧ y = .int k ∧ SqT K H l xs ∧ xs ≠ [] ∧ 1 ≤ k ∧ k ≤ 1000 ∧ xs.length ≤ 1000 ∧ ∀ p H', Same H H' → SqT K H' p (List.replicate k.toNat xs).flatten → Q (.ref p) H'
theorem op_repA {X : Cx} : OpR X (binaryOp .Mult) (rRepA X.K) := by
  intro pins s σ H x y v u Q I rx ry h
  obtain ⟨l, k, xs, rfl, rfl, hT, ne, k1, k2, few, q⟩ := h
  by_cases e : k = 1
  · subst e
    refine op_rep1 pins s σ H _ _ _ _ Q I rx ry ⟨l, xs, rfl, rfl, hT, q l H (fun _ _ h => h) ?_⟩
    show SqT X.K H l (List.replicate 1 xs).flatten
    simpa using hT
  · exact op_repT pins s σ H _ _ _ _ Q I rx ry ⟨l, k, xs, rfl, rfl, hT, ne, by omega, k2, few, fun p hp => q p _ (same_upd hp) (.inl (.inl upd_same))⟩
open RZ in
theorem walk_zipT {K : PySem.W.Frag} {a b : Addr} {xs ys : List V} {n : Nat} (hn : n = min xs.length ys.length) : Walk (ItzT K a b) n (fun H => SqT K H a xs ∧ SqT K H b ys) (YPair (fun i => xs[i]?) (fun i => ys[i]?)) := by
  subst hn
  refine ⟨fun i _ hi q => ?_, fun _ q => ⟨xs, ys, q.1, q.2, by omega⟩, fun i H v H' _ q y => ?_⟩
  · have h1 : i < xs.length := by omega
    have h2 : i < ys.length := by omega
    exact ⟨xs, ys, xs[i], ys[i], q.1, q.2, by simp [h1], by simp [h2]⟩
  · obtain ⟨T, x, z, h1, h2, h3, h4, h5⟩ := y
    exact ⟨T, x, z, h1, h2, h3, h4 xs q.1, h5 ys q.2⟩
end Ft

set_option Elab.async false
set_option linter.all false
set_option maxRecDepth 100000
set_option maxHeartbeats 4000000
namespace Ft
open PySem PySem.Spec PyProof.Rows L2
theorem dpAll_rep {K : PySem.W.Frag} {H : Hp} {xs : List V} {ds : List PyData} (h : DpAll K H xs ds) : ∀ k : Nat, DpAll K H (List.replicate k xs).flatten (List.replicate k ds).flatten
  | 0 => .nil
  | k + 1 => by
    rw [List.replicate_succ, List.replicate_succ, List.flatten_cons, List.flatten_cons]
    exact dpAll_app h (dpAll_rep h k)
theorem gv_rep {K : PySem.W.Frag} {σ : L2.St} {H : Hp} {ta tb : TE} {ds : List PyData} {k : Nat} (g : Gv K σ H ta (.tuple ds)) (g2 : Gv K σ H tb (.int (k : Int))) (ne : ds ≠ []) (h1 : 1 ≤ k) (h2 : k ≤ 1000) (few : ds.length ≤ 1000) : Gv K σ H (tOp (rRepA K) ta tb) (.tuple (List.replicate k ds).flatten) := fun H1 s Q q => g H1 s _ fun v H2 s2 h => g2 H2 (s.trans s2) _ fun u H3 s3 h3 => by
  cases dp_int h3
  obtain ⟨a, xs, rfl, hs, ha⟩ := dp_tup (Dp.same s3 h)
  have len := dpAll_length ha
  exact ⟨a, (k : Int), xs, rfl, rfl, hs, (fun e => ne (by rw [e] at len; exact List.length_eq_zero_iff.mp len.symm)), by omega, by omega, by omega, fun p H4 s4 hp => q _ _ ((s2.trans s3).trans s4) (.tup hp (dpAll_rep (DpAll.same s4 ha) _))⟩
end Ft

set_option Elab.async false
set_option linter.all false
set_option maxRecDepth 100000
set_option maxHeartbeats 4000000
/-! str(i), i a small whole number -/
namespace Ft
open PySem PySem.Spec PyProof.Rows L2
def txtI (i : Int) : Str := toString i
def rStrI : List V → Hp → VK → Prop := fun xs H Q => ∃ i, xs = [.int i] ∧ i.natAbs.log2 < 1920 ∧ Q (.str (txtI i)) H
theorem call_strI {X : Cx} : CallR X (.type "str") rStrI := call_str_int
theorem txtI_ok : ∀ n : Fin 128, PyData.strOk (txtI ((n.1 : Nat) : Int)) = true := by decide +kernel
theorem gv_str1 {K : PySem.W.Frag} {σ : L2.St} {H : Hp} {t : TE} {i : Int} (g : Gv K σ H t (.int i)) (few : i.natAbs ≤ 1000) : Gv K σ H (tCB rStrI (tCons t tNil)) (.str (txtI i)) := fun H1 s Q q => g H1 s _ fun v H2 s2 h => by
  cases dp_int h
  refine ⟨i, rfl, ?_, q _ H2 s2 (.str _)⟩
  have h1 := Nat.log2_le_self i.natAbs
  omega
end Ft

set_option Elab.async false
set_option linter.all false
set_option maxRecDepth 100000
set_option maxHeartbeats 4000000
namespace Ft
open PySem PySem.Spec PyProof.Rows L2
/-! sorted(t), t a tuple of tuples of ints -/
section
variable {P : Program} {w : World} {A : Around} {E : Value → Shared → Prop} {s : Shared}
theorem rows_flat : ∀ {h : Heap} {ns : List Int} {us : List Value} {bs : List Addr}, ReadsAll h us (ns.map PyData.int) bs → bs = []
  | _, [], _, _, z => by cases z; rfl
  | _, n :: ns, _, _, z => by
    cases z with
    | cons z1 z2 =>
      cases z1
      rw [rows_flat z2]
      rfl
theorem collect_tup {l : Addr} {vs : List Value} {Q : List Value → Shared → Prop} (hl : s.heap.IsTuple l vs.toArray) (line : vs.length ≤ sizeLine)
    (go : Q vs { s with heap := (s.heap.push (seqObj "list" #[] 0)).update s.heap.objs.size (Obj.mapSeq (· ++ vs.toArray)) }) : wpAny (model P w) A (collect (.ref l)) Q E s := by
  obtain ⟨o, ho, hc, n, hd⟩ := id hl
  unfold collect
  refine wpAny_bind (wpAny_runValue (codeAny_builtin entry_proto_collect' ?_))
  show wpAny _ _ (do again (.builtin "list.__iadd__" ⟨[← newList [], .ref l], []⟩)) _ _ s
  refine wpAny_bind (wpAny_newList (wpAny_pure ⟨Code.quiet_builtin _ (by decide +kernel), codeAny_builtin entry_list_iadd' ?_⟩))
  show wpAny _ _ (Builtin.List.listExtendWith (.ref s.heap.objs.size) (.ref l) (.ref s.heap.objs.size)) _ _ { s with heap := s.heap.push (seqObj "list" #[] 0) }
  unfold Builtin.List.listExtendWith
  have ho' : (s.heap.push (seqObj "list" #[] 0)).get? l = some o := Heap.get?_push_of_some _ ho
  refine wpAny_bind (wpAny_typeOf (T := "tuple") ⟨o, ho', hc⟩ ?_)
  rw [if_pos (by simp)]
  refine wpAny_bind (listItems_at ho' hd ?_)
  refine wpAny_bind (listItems_at (xs := #[]) (n := 0) (Heap.get?_push_size _ rfl) rfl ?_)
  rw [if_neg (by simp)]
  refine wpAny_bind (listUpdate_at (xs := #[]) (n := 0) (Heap.get?_push_size _ rfl) rfl ?_ (Nat.zero_le _) (by show (#[] ++ vs.toArray).size ≤ sizeLine + 1; simp only [Array.size_append, List.size_toArray, List.length_nil]; omega))
  refine wpAny_pure ?_
  show wpAny (model P w) A (do
      let o ← load s.heap.objs.size
      match o.data with
      | .seq xs _ => pure xs.toList
      | _ => unsupported "internal:collect") Q E { s with heap := (s.heap.push (seqObj "list" #[] 0)).update s.heap.objs.size (Obj.mapSeq (· ++ vs.toArray)) }
  refine wpAny_bind (wpAny_load (get?_update_seq (Heap.get?_push_size _ rfl) _) ?_)
  show wpAny _ _ (pure ((#[] : Array Value) ++ vs.toArray).toList) Q E _
  rw [show ((#[] : Array Value) ++ vs.toArray).toList = vs by simp]
  exact wpAny_pure go
theorem sorted_rowsT {a : Addr} {L : List Row} {Q : Value → Shared → Prop} (hl : s.heap.IsTuple a (L.map fun q => Value.ref q.1).toArray) (line : L.length ≤ sizeLine) (hu : A.units + 64 < cLine) (hne : ∀ p ∈ L, p.2 ≠ [])
    (rd : ∀ p ∈ L, ∃ as, Reads s.heap (.ref p.1) (encR p) as)
    (done : ∀ s' p (c : Nat), (∀ b o, s.heap.get? b = some o → s'.heap.get? b = some o) → s'.gens = s.gens → s'.os = s.os → s.heap.objs.size ≤ p →
      s'.heap.get? p = some (seqObj "list" ((L.mergeSort leR).map fun q => Value.ref q.1).toArray c) → Q (.ref p) s') :
    wpAny (model P w) A (call (.builtin "sorted") [.ref a]) Q E s := by
  refine Calls.call_function_entry kind_sorted plain_sorted entry_sorted (args_sorted1 _) ?_
  unfold Builtin.«sorted»
  refine wpAny_bind (m := checkCount "sorted" 1 1 _) (wpAny_pure ?_)
  refine wpAny_bind (collect_tup hl (by rw [List.length_map]; exact line) ?_)
  obtain ⟨h1, eh⟩ : ∃ h1, (s.heap.push (seqObj "list" #[] 0)).update s.heap.objs.size (Obj.mapSeq (· ++ (L.map fun q => Value.ref q.1).toArray)) = h1 := ⟨_, rfl⟩
  have k1 : ∀ b o, s.heap.get? b = some o → h1.get? b = some o := fun b o hb => by
    rw [← eh]
    exact (Heap.get?_update_other _ _ (Nat.ne_of_gt (Heap.lt_size hb))).trans (Heap.get?_push_of_some _ hb)
  have hz : s.heap.objs.size ≤ h1.objs.size := by
    rw [← eh, Heap.size_update, size_push']
    exact Nat.le_succ _
  rw [eh]
  refine wpAny_bind (wpAny_newList ?_ (by simpa using line))
  have hoL : (h1.push (seqObj "list" (L.map fun q => Value.ref q.1).toArray 0)).get? h1.objs.size = some (seqObj "list" (L.map fun q => Value.ref q.1).toArray 0) := Heap.get?_push_size _ rfl
  have er : ∀ (M : List Row), (∀ q ∈ M, q ∈ L) → PySem.W.EachIs (fun v b => ∃ as, Reads (h1.push (seqObj "list" (L.map fun q => Value.ref q.1).toArray 0)) v (encR b) as ∧ h1.objs.size ∉ as) (M.map fun p => Value.ref p.1) M := by
    intro M
    induction M with
    | nil => intro _; exact .nil
    | cons p M ih =>
      intro hM
      obtain ⟨as, r0⟩ := rd p (hM p List.mem_cons_self)
      have r1 := PyProof.Rows.Reads.keeps (h' := h1.push (seqObj "list" (L.map fun q => Value.ref q.1).toArray 0)) (fun b u e => Heap.get?_push_of_some _ (k1 b u e)) r0
      refine .cons ⟨as, r1, ?_⟩ (ih fun q hq => hM q (List.mem_cons_of_mem _ hq))
      have e0 : as = [] := by
        cases r0 with
        | tuple _ _ _ z => exact rows_flat z
      rw [e0]
      exact List.not_mem_nil
  refine wpAny_bind (wpAny_holding (PySem.W.list_sort_data (R := fun v (p : Row) => v = Value.ref p.1) (bs := L) (enc := encR) hoL (rows_each L) (er L fun _ h => h) (rows_alike L)
    (rows_sortable hne) line (rows_deep (k := 1) (by show A.units + 1 + 1 + 1 < cLine; omega)) fun out hlen he => ?_))
  rw [leR_is] at he
  have eo := rows_back he
  subst eo
  obtain ⟨c, hc2⟩ := sortedHeap_at (vs := L.map fun q => Value.ref q.1) (out := ((L.mergeSort leR).map fun q => Value.ref q.1).toArray) hoL
  refine wpAny_pure ⟨_, rfl, done _ h1.objs.size c (fun b u e => ?_) rfl rfl hz hc2⟩
  have q := k1 b u e
  have hlt := Heap.lt_size q
  show (sortedHeap (h1.push (seqObj "list" (L.map fun q => Value.ref q.1).toArray 0)) h1.objs.size (L.map fun q => Value.ref q.1) _).get? b = some u
  rw [sortedHeap_old (Nat.ne_of_lt hlt) (by rw [size_push']; exact Nat.lt_succ_of_lt hlt)]
  exact Heap.get?_push_of_some _ q
end
def rSortedTR (K : PySem.W.Frag) : List V → Hp → VK → Prop := fun vs H Q => ∃ (a : Addr) (L : List Row), vs = [V.ref a] ∧ SqT K H a (L.map fun p => V.ref p.1) ∧ (∀ p ∈ L, SqT K H p.1 (p.2.map V.int)) ∧ (∀ p ∈ L, p.2 ≠ []) ∧
  ∀ p, H p = none → Q (.ref p) (upd H p (.lst ((L.mergeSort leR).map fun p => V.ref p.1)))
theorem cr_sortedTR {X : Cx} (hu : X.A.units + 64 < cLine) : CallR X (.builtin "sorted") (rSortedTR X.K) := by
  intro pins s σ H xs us Q I r h
  obtain ⟨a, L, rfl, hl, hk, hne, q⟩ := h
  rw [Vals.ref1 r]
  obtain ⟨its, rv, pl, hz⟩ := I.tuple hl
  have ei : its = L.map fun p => Value.ref p.1 := refs_of_vals rv
  subst ei
  have hz2 : L.length ≤ sizeLine := by simpa using hz
  have pt : s.heap.IsTuple a (L.map fun p => Value.ref p.1).toArray := pl
  refine sorted_rowsT pt hz2 hu hne (fun p hp => Dp.reads I (encR p) (.ref p.1) (.ref p.1) (.tup (hk p hp) (dpAll_ints p.2)) rfl) fun s' p c k g o hp hg => ?_
  have line : ((L.mergeSort leR).map fun q => V.ref q.1).length ≤ sizeLine := by rw [List.length_map, List.length_mergeSort]; exact hz2
  have free : H p = none := I.hok.fresh hp
  have J : Inv X pins σ (upd H p (.lst ((L.mergeSort leR).map fun q => V.ref q.1))) s' := I.call' (s' := s') (ch := []) o (Un.laid k hp free) (I.hok.laid k hp ⟨line, _, c, vals_of_refs _, hg⟩) (by rw [g]; exact I.bare) (fun _ z => nomatch z)
  exact ⟨.ref p, _, J, rfl, q p free⟩
/-! sorted(t), t a tuple of ints -/
def rSortedIT (K : PySem.W.Frag) : List V → Hp → VK → Prop := fun vs H Q => ∃ (a : Addr) (ns : List Int), vs = [V.ref a] ∧ SqT K H a (ns.map V.int) ∧
  ∀ (ns' : List Int) (p : Addr), ns'.Perm ns → ns'.Pairwise (· ≤ ·) → H p = none → Q (.ref p) (upd H p (.lst (ns'.map V.int)))
theorem cr_sortedIT {X : Cx} : CallR X (.builtin "sorted") (rSortedIT X.K) := by
  intro pins s σ H vs us Q I r h
  obtain ⟨a, ns, rfl, hs, q⟩ := h
  rw [Vals.ref1 r]
  obtain ⟨its, rv, pl, hz⟩ := I.tuple hs
  have pt : s.heap.IsTuple a its.toArray := pl
  have hi := rv.ints
  have line : its.length ≤ sizeLine := by rw [← rv.length]; exact hz
  refine Calls.call_function_entry kind_sorted plain_sorted entry_sorted (args_sorted1 _) ?_
  unfold Builtin.«sorted»
  refine wpAny_bind (m := checkCount "sorted" 1 1 _) (wpAny_pure ?_)
  refine wpAny_bind (collect_tup pt line ?_)
  obtain ⟨h1, eh⟩ : ∃ h1, (s.heap.push (seqObj "list" #[] 0)).update s.heap.objs.size (Obj.mapSeq (· ++ its.toArray)) = h1 := ⟨_, rfl⟩
  have k1 : ∀ b o, s.heap.get? b = some o → h1.get? b = some o := fun b o hb => by
    rw [← eh]
    exact (Heap.get?_update_other _ _ (Nat.ne_of_gt (Heap.lt_size hb))).trans (Heap.get?_push_of_some _ hb)
  have hz1 : s.heap.objs.size ≤ h1.objs.size := by
    rw [← eh, Heap.size_update, size_push']
    exact Nat.le_succ _
  rw [eh]
  refine wpAny_bind (wpAny_newList ?_ (by simpa using line))
  have hoL : (h1.push (seqObj "list" its.toArray 0)).get? h1.objs.size = some (seqObj "list" its.toArray 0) := Heap.get?_push_size _ rfl
  refine wpAny_bind (wpAny_holding (wpAny_call_entry PyProof.Rows.slot_list_sort ⟨_, hoL, rfl⟩ PyProof.Rows.entry_list_sort
    (SrtO.list_sort_ord SrtO.swo_int hoL line (fun h2 => SrtO.ints_sortable hi h2) fun out h1' h2 => ⟨.none, rfl, ?_⟩) (PyProof.Rows.args_list_sort _)))
  obtain ⟨g1, g2, g3⟩ := SrtO.ints_out hi h1' h2
  obtain ⟨c, hc2⟩ := sortedHeap_at (vs := its) (out := out.toArray) hoL
  have free : H h1.objs.size = none := I.hok.fresh hz1
  have keep : ∀ b u, s.heap.get? b = some u → (sortedHeap (h1.push (seqObj "list" its.toArray 0)) h1.objs.size its out.toArray).get? b = some u := fun b u e => by
    have q := k1 b u e
    have hlt := Heap.lt_size q
    rw [sortedHeap_old (Nat.ne_of_lt hlt) (by rw [size_push']; exact Nat.lt_succ_of_lt hlt)]
    exact Heap.get?_push_of_some _ q
  have line2 : ((out.map SrtO.iv).map V.int).length ≤ sizeLine := by
    rw [List.length_map, g2.length_eq]
    rw [List.length_map] at hz
    exact hz
  have J : Inv X pins σ (upd H h1.objs.size (.lst ((out.map SrtO.iv).map V.int))) { s with heap := sortedHeap (h1.push (seqObj "list" its.toArray 0)) h1.objs.size its out.toArray } :=
    I.call' (s' := { s with heap := sortedHeap (h1.push (seqObj "list" its.toArray 0)) h1.objs.size its out.toArray }) (ch := []) rfl (Un.laid keep hz1 free) (I.hok.laid keep hz1 ⟨line2, _, c, vals_of_ints g1, hc2⟩) I.bare (fun _ z => nomatch z)
  exact wpAny_pure ⟨_, rfl, ⟨.ref h1.objs.size, _, J, rfl, q _ _ g2 g3 free⟩⟩
end Ft

set_option Elab.async false
set_option linter.all false
set_option maxRecDepth 100000
set_option maxHeartbeats 4000000
/-! a list display whose list is new -/
namespace Ft
open PySem PySem.Spec PyProof.Rows L2
theorem lst_gvN {K : PySem.W.Frag} {σ : L2.St} {H : Hp} {tr : TA} {ds : List PyData} {Q : VK} (g : GvA K σ H tr ds) (few : ds.length ≤ 1000) (q : ∀ p xs H', H p = none → Same H H' → H' p = some (.lst xs) → DpAll K H' xs ds → Q (.ref p) H') : tLst tr σ H Q := g H (Same.rfl' H) _ fun vs H2 s2 hs => by
  have len := dpAll_length hs
  refine ⟨by rw [sizeLine_eq]; omega, fun p hp => q p vs _ ?_ (s2.trans (same_upd hp)) upd_same (DpAll.same (same_upd hp) hs)⟩
  cases e : H p with
  | none => rfl
  | some o => rw [s2 _ _ e] at hp; cases hp
end Ft

set_option Elab.async false
set_option linter.all false
set_option maxRecDepth 100000
set_option maxHeartbeats 8000000
namespace Ft
open PySem PySem.Spec PyProof.Rows L2
theorem no_map {d : PyData} (h : ∀ C : Chart, C.Ok → d ≠ chartD C) : (mapErr d).isSome = true := by
  cases e : mapErr d with
  | some x => rfl
  | none =>
    obtain ⟨C, ok, e2⟩ := mapErr_none e
    exact absurd e2 (h C ok)
theorem no_lot {n : Nat} {d : PyData} (h : ∀ ws : List Nat, ws.Pairwise (· < ·) → (∀ x ∈ ws, x < n) → d ≠ lotD ws) : lotOk n d = false := by
  cases e : lotOk n d with
  | false => rfl
  | true =>
    obtain ⟨ws, e2, up, lt⟩ := lotOk_is e
    exact absurd e2 (h ws up lt)
/-- a list that is good, and a bad item behind it -/
theorem badPlace_bad {n : Nat} {d : PyData} (hd : ∀ b : Int, -1 ≤ b → numIn (b + 1) ((n : Int) - 1) d = false) : ∀ {ws : List Nat} {b : Int} {i : Nat}, -1 ≤ b → ws.Pairwise (· < ·) → (∀ x ∈ ws, x < n) → (∀ x ∈ ws, b < (x : Int)) → badPlace n b i (ws.map nD ++ [d]) = some (i + ws.length)
  | [], b, i, hb, _, _, _ => by
    simp only [List.map_nil, List.nil_append, badPlace]
    rw [if_neg (by rw [hd b hb]; simp)]
    rfl
  | w :: ws, b, i, hb, up, lt, ab => by
    have h1 := lt w List.mem_cons_self
    have h2 := ab w List.mem_cons_self
    obtain ⟨u1, u2⟩ := List.pairwise_cons.mp up
    simp only [List.map_cons, List.cons_append, badPlace]
    rw [if_pos (numIn_nat.mpr ⟨by omega, by omega⟩)]
    have := badPlace_bad hd (ws := ws) (b := numOf (nD w)) (i := i + 1) (by show (-1 : Int) ≤ (w : Int); omega) u2 (fun x hx => lt x (List.mem_cons_of_mem _ hx)) (fun x hx => by show (w : Int) < (x : Int); have := u1 x hx; omega)
    rw [this, List.length_cons]
    congr 1
    omega
theorem badRoad_bad {n : Nat} {d : PyData} (hd : pairOf n d = none) : ∀ {ps : List (Nat × Nat)} {p : Option (Nat × Nat)} {i : Nat}, ps.Pairwise ltP → (∀ q ∈ ps, q.1 < n ∧ q.2 < n) → (∀ q ∈ ps, above p q = true) → badRoad n p i (ps.map pairD ++ [d]) = some (i + ps.length)
  | [], p, i, _, _, _ => by
    simp only [List.map_nil, List.nil_append, badRoad, hd]
    rfl
  | q :: ps, p, i, up, lt, ab => by
    obtain ⟨u1, u2⟩ := List.pairwise_cons.mp up
    simp only [List.map_cons, List.cons_append, badRoad, pairOf_pair (lt q List.mem_cons_self)]
    rw [if_pos (ab q List.mem_cons_self)]
    have := badRoad_bad hd (ps := ps) (p := some q) (i := i + 1) u2 (fun x hx => lt x (List.mem_cons_of_mem _ hx)) (fun x hx => decide_eq_true (u1 x hx))
    rw [this, List.length_cons]
    congr 1
    omega
theorem pair_beyond {n : Nat} : pairOf n (.tuple [.int 0, nD n]) = none := by
  cases e : pairOf n (.tuple [.int 0, nD n]) with
  | none => rfl
  | some p =>
    obtain ⟨h1, _, h3⟩ := pairOf_is e
    unfold pairD at h1
    simp only [nD, PyData.tuple.injEq, List.cons.injEq, PyData.int.injEq] at h1
    have := h1.2.1
    omega
theorem txt_m1 : txtI (-1) = ("-1" : Str) := by decide +kernel
theorem txt_m2 : txtI (-2) = ("-2" : Str) := by decide +kernel
theorem txt_m3 : txtI (-3) = ("-3" : Str) := by decide +kernel
inductive MW : Str → Prop
  | map : MW "BadMap"
  | wish : MW "BadWish"
/-- a row: a thing that is no map, the error's name and its what as text -/
def NoMapE (d : PyData) : Prop := ∃ (dc : PyData) (x : Str) (i : Int), d = .tuple [dc, .str x, .str (txtI i)] ∧ mapErr dc = some (x, i) ∧ MW x ∧ -3 ≤ i ∧ i ≤ 240
section
variable {P : Program} {w : World} {K : PySem.W.Frag} {mg : Str → Option Value} {base : Heap} {ca : Str → Addr}
/-! ### _law_way_no_lots -/
def sp_law_way_no_lots (K : PySem.W.Frag) : Sp := fun vs H Q _ => ∃ (c : Addr) (C : Chart), vs = [.ref c] ∧ IsChart K H c C ∧ C.Ok ∧ ∀ (t : Addr) (xs : List V) (ds : List PyData) (H' : Hp), H' t = some (.lst xs) → DpAll K H' xs ds → ds.length = 11 → (∀ d ∈ ds, lotOk C.n d = false) → Same H H' → Q (.ref t) H'
theorem cal_law_way_no_lots (T : Txt mg) (D : Def K mg "_law_way_no_lots" s_law_way_no_lots) : Cal P w K mg base 1 "_law_way_no_lots" (sp_law_way_no_lots K) := by
  refine cal_of D sc_law_way_no_lots (fun _ _ _ _ _ _ us hl => match us, hl with | [_], _ => rfl) (fun vs H Q E h => ?_) (fun f cdv A outer s H vs Q E hr h => ?_)
  · obtain ⟨c, C, rfl, _⟩ := h
    rfl
  · obtain ⟨c, C, rfl, hCC, ok, q⟩ := h
    refine ⟨_, (pss_one (ps_ret (pe_lst (pa_cons pe_non (pa_cons pe_str (pa_cons pe_int (pa_cons (pe_tup (pa_cons (pe_ix (show IxR _ (rIxT K) from ix_tup) (pv 0) pe_int (fun _ _ => rfl)) pa_nil)) (pa_cons (pe_tup (pa_cons (pe_un un_neg pe_int) pa_nil)) (pa_cons (pe_tup (pa_cons pe_bl pa_nil)) (pa_cons (pe_tup (pa_cons pe_int (pa_cons pe_int pa_nil))) (pa_cons (pe_tup (pa_cons pe_int (pa_cons pe_int pa_nil))) (pa_cons (pe_tup (pa_cons pe_str pa_nil)) (pa_cons (pe_tup (pa_cons (pe_tup (pa_cons pe_int pa_nil)) pa_nil)) (pa_cons (pe_tup (pa_cons pe_non pa_nil)) pa_nil)))))))))))))), ?_⟩
    have hc : Dp K H (.ref c) (.tuple [nD C.n, .tuple (C.roads.map pairD), lotD C.wished]) := dp_chart hCC
    refine lst_gv (K := K) (gva_cons gv_non (gva_cons gv_str (gva_cons gv_int (gva_cons (gv_tup (gva_cons (gv_ixT (j := 0) (gv_var rfl hc) gv_int rfl) gva_nil) (by simp)) (gva_cons (gv_tup (gva_cons (gv_neg gv_int) gva_nil) (by simp)) (gva_cons (gv_tup (gva_cons gv_bl gva_nil) (by simp)) (gva_cons (gv_tup (gva_cons gv_int (gva_cons gv_int gva_nil)) (by simp)) (gva_cons (gv_tup (gva_cons gv_int (gva_cons gv_int gva_nil)) (by simp)) (gva_cons (gv_tup (gva_cons gv_str gva_nil) (by simp)) (gva_cons (gv_tup (gva_cons (gv_tup (gva_cons gv_int gva_nil) (by simp)) gva_nil) (by simp)) (gva_cons (gv_tup (gva_cons gv_non gva_nil) (by simp)) gva_nil))))))))))) (by simp) fun t xs H1 s1 hT hd => ?_
    refine q t xs _ H1 hT hd rfl (fun d hd' => no_lot fun ws up lt e => ?_) s1
    simp only [List.mem_cons, List.not_mem_nil, or_false] at hd'
    subst e
    unfold lotD at hd'
    rcases hd' with h | h | h | h | h | h | h | h | h | h | h
    · cases h
    · cases h
    · cases h
    all_goals (injection h with h; cases ws with | nil => cases h | cons a ws => ?_)
    · simp only [List.map_cons, List.cons.injEq, nD, PyData.int.injEq, List.map_eq_nil_iff] at h
      have := lt a List.mem_cons_self
      have := h.1
      omega
    · simp only [List.map_cons, List.cons.injEq, nD, PyData.int.injEq, List.map_eq_nil_iff] at h
      have := h.1
      omega
    · simp [nD] at h
    · cases ws with
      | nil => simp [nD] at h
      | cons b ws =>
        simp only [List.map_cons, List.cons.injEq, nD, PyData.int.injEq, List.map_eq_nil_iff] at h
        have := (List.pairwise_cons.mp up).1 b List.mem_cons_self
        have := h.1
        have := h.2.1
        omega
    · cases ws with
      | nil => simp [nD] at h
      | cons b ws =>
        simp only [List.map_cons, List.cons.injEq, nD, PyData.int.injEq, List.map_eq_nil_iff] at h
        have := (List.pairwise_cons.mp up).1 b List.mem_cons_self
        have := h.1
        have := h.2.1
        omega
    · simp [nD] at h
    · simp [nD] at h
    · simp [nD] at h
/-! ### _law_way_no_charts -/
def sp_law_way_no_charts (K : PySem.W.Frag) : Sp := fun vs H Q _ => ∃ (c : Addr) (C : Chart), vs = [.ref c] ∧ IsChart K H c C ∧ C.Ok ∧ C.roads.length < 240 ∧ ∀ (t : Addr) (xs : List V) (ds : List PyData) (H' : Hp), H' t = some (.lst xs) → DpAll K H' xs ds → ds.length = 10 → (∀ d ∈ ds, NoMapE d) → Same H H' → Q (.ref t) H'
theorem cal_law_way_no_charts (T : Txt mg) (D : Def K mg "_law_way_no_charts" s_law_way_no_charts) : Cal P w K mg base 1 "_law_way_no_charts" (sp_law_way_no_charts K) := by
  refine cal_of D sc_law_way_no_charts (fun _ _ _ _ _ _ us hl => match us, hl with | [_], _ => rfl) (fun vs H Q E h => ?_) (fun f cdv A outer s H vs Q E hr h => ?_)
  · obtain ⟨c, C, rfl, _⟩ := h
    rfl
  · obtain ⟨c, C, rfl, ⟨r, wd, ts, hC⟩, ok, r240, q⟩ := h
    have n60 := ok.n60
    refine ⟨_, (pss_cons (ps_asg (pv 0) (show PG _ _ (gTup K 3 _) from pg_tup (by rfl) (pgs_cons (pg_name (i := 1) sc_law_way_no_charts.nd rfl (Or.inl rfl)) (pgs_cons (pg_name (i := 2) sc_law_way_no_charts.nd rfl (Or.inl rfl)) (pgs_cons (pg_name (i := 3) sc_law_way_no_charts.nd rfl (Or.inl rfl)) pgs_nil)))))
      (pss_cons (ps_set (i := 4) sc_law_way_no_charts.nd rfl (Or.inl rfl) (pe_op (show OpR _ _ (rCatA K) from op_catA) (pv 2) (pe_tup (pa_cons (pe_tup (pa_cons pe_int (pa_cons (pv 1) pa_nil))) pa_nil))))
      (pss_cons (ps_set (i := 5) sc_law_way_no_charts.nd rfl (Or.inl rfl) (pe_lst (pa_cons (pe_tup (pa_cons pe_non (pa_cons pe_str (pa_cons pe_str pa_nil)))) (pa_cons (pe_tup (pa_cons (pe_tup (pa_cons (pv 1) (pa_cons (pv 2) pa_nil))) (pa_cons pe_str (pa_cons pe_str pa_nil)))) (pa_cons (pe_tup (pa_cons (pe_tup (pa_cons pe_int (pa_cons (pe_tup pa_nil) (pa_cons (pe_tup pa_nil) pa_nil)))) (pa_cons pe_str (pa_cons pe_str pa_nil)))) pa_nil)))))
      (pss_cons (ps_set (i := 5) sc_law_way_no_charts.nd rfl (Or.inl rfl) (pe_op op_cat (pv 5) (pe_lst (pa_cons (pe_tup (pa_cons (pe_tup (pa_cons (pe_un un_neg pe_int) (pa_cons (pe_tup pa_nil) (pa_cons (pe_tup pa_nil) pa_nil)))) (pa_cons pe_str (pa_cons pe_str pa_nil)))) (pa_cons (pe_tup (pa_cons (pe_tup (pa_cons pe_bl (pa_cons (pe_tup pa_nil) (pa_cons (pe_tup pa_nil) pa_nil)))) (pa_cons pe_str (pa_cons pe_str pa_nil)))) pa_nil)))))
      (pss_cons (ps_expr (pe_bm PySem.F.plainAttrs_list PySem.F.slot_list_append PySem.F.type_list_append mt_append (pv 5) (pa_cons (pe_tup (pa_cons (pe_tup (pa_cons pe_int (pa_cons pe_non (pa_cons pe_non pa_nil)))) (pa_cons pe_str (pa_cons pe_str pa_nil)))) pa_nil)))
      (pss_cons (ps_set (i := 5) sc_law_way_no_charts.nd rfl (Or.inl rfl) (pe_op op_cat (pv 5) (pe_lst (pa_cons (pe_tup (pa_cons (pe_tup (pa_cons (pv 1) (pa_cons pe_non (pa_cons (pv 3) pa_nil)))) (pa_cons pe_str (pa_cons pe_str pa_nil)))) (pa_cons (pe_tup (pa_cons (pe_tup (pa_cons (pv 1) (pa_cons (pv 4) (pa_cons pe_non pa_nil)))) (pa_cons pe_str (pa_cons (pe_callTy (show CallR _ _ rStrI from call_strI) (by rfl) T.str (by decide +kernel) (pa_cons (pe_callB (show CallR _ _ (rLenS K) from call_lenS) (by rfl) T.len (by decide +kernel) (pa_cons (pv 2) pa_nil)) pa_nil)) pa_nil)))) pa_nil)))))
      (pss_cons (ps_set (i := 5) sc_law_way_no_charts.nd rfl (Or.inl rfl) (pe_op op_cat (pv 5) (pe_lst (pa_cons (pe_tup (pa_cons (pe_tup (pa_cons (pv 1) (pa_cons (pv 2) (pa_cons pe_non pa_nil)))) (pa_cons pe_str (pa_cons pe_str pa_nil)))) pa_nil))))
      (pss_one (ps_ret (pe_op op_cat (pv 5) (pe_lst (pa_cons (pe_tup (pa_cons (pe_tup (pa_cons (pv 1) (pa_cons (pv 2) (pa_cons (pe_op (show OpR _ _ (rCatA K) from op_catA) (pv 3) (pe_tup (pa_cons (pe_un un_neg pe_int) pa_nil))) pa_nil)))) (pa_cons pe_str (pa_cons (pe_callTy (show CallR _ _ rStrI from call_strI) (by rfl) T.str (by decide +kernel) (pa_cons (pe_callB (show CallR _ _ (rLenS K) from call_lenS) (by rfl) T.len (by decide +kernel) (pa_cons (pv 3) pa_nil)) pa_nil)) pa_nil)))) pa_nil)))))))))))), ?_⟩
    refine ⟨_, rfl, c, _, rfl, hC.top, rfl, _, _, rfl, _, _, rfl, _, _, rfl, rfl, ?_⟩
    have hN : Dp K H (vN C.n) (nD C.n) := dp_nat _
    have hR : Dp K H (.ref r) (.tuple (C.roads.map pairD)) := .tup hC.row (dp_pairs hC.prs)
    have hW : Dp K H (.ref wd) (lotD C.wished) := dp_lot hC.wis
    have many := ok.many
    refine seq_gv (K := K) (gv_cat (gv_var rfl hR) (gv_tup (gva_cons (gv_tup (gva_cons gv_int (gva_cons (gv_var rfl hN) gva_nil)) (by simp)) gva_nil) (by simp)) (by simp; omega)) fun vb H1 s1 hb => ?_
    have hN1 := Dp.same s1 hN
    have hR1 := Dp.same s1 hR
    refine at_seq ?_
    unfold tAsg
    refine lst_gvN (K := K) (gva_cons (gv_tup (gva_cons gv_non (gva_cons gv_str (gva_cons gv_str gva_nil))) (by simp)) (gva_cons (gv_tup (gva_cons (gv_tup (gva_cons (gv_var rfl hN1) (gva_cons (gv_var rfl hR1) gva_nil)) (by simp)) (gva_cons gv_str (gva_cons gv_str gva_nil))) (by simp)) (gva_cons (gv_tup (gva_cons (gv_tup (gva_cons gv_int (gva_cons (gv_tup gva_nil (by simp)) (gva_cons (gv_tup gva_nil (by simp)) gva_nil))) (by simp)) (gva_cons gv_str (gva_cons gv_str gva_nil))) (by simp)) gva_nil))) (by simp) fun t1 xs1 H2 ht1 s2 hT1 hd1 => ?_
    generalize ees1 : (_ :: _ : List PyData) = es1 at hd1
    refine ⟨_, rfl, lst_gvN (K := K) (gva_cons (gv_tup (gva_cons (gv_tup (gva_cons (gv_neg gv_int) (gva_cons (gv_tup gva_nil (by simp)) (gva_cons (gv_tup gva_nil (by simp)) gva_nil))) (by simp)) (gva_cons gv_str (gva_cons gv_str gva_nil))) (by simp)) (gva_cons (gv_tup (gva_cons (gv_tup (gva_cons gv_bl (gva_cons (gv_tup gva_nil (by simp)) (gva_cons (gv_tup gva_nil (by simp)) gva_nil))) (by simp)) (gva_cons gv_str (gva_cons gv_str gva_nil))) (by simp)) gva_nil)) (by simp) fun t2 xs2 H4 ht2 s4 hT2 hd2 => ?_⟩
    generalize ees2 : (_ :: _ : List PyData) = es2 at hd2
    have len1 : es1.length = 3 := by rw [← ees1]; rfl
    have len2 : es2.length = 2 := by rw [← ees2]; rfl
    have lx1 := dpAll_length hd1
    have lx2 := dpAll_length hd2
    have hdA : DpAll K H4 (xs1 ++ xs2) (es1 ++ es2) := dpAll_app (DpAll.same s4 hd1) hd2
    refine ⟨t1, t2, xs1, xs2, rfl, rfl, s4 _ _ hT1, hT2, by rw [sizeLine_eq]; omega, fun t3 ht3 => ?_⟩
    have s5 : Same H4 (upd H4 t3 (.lst (xs1 ++ xs2))) := same_upd ht3
    have hT5 : (upd H4 t3 (.lst (xs1 ++ xs2))) t3 = some (.lst (xs1 ++ xs2)) := upd_same
    generalize upd H4 t3 (.lst (xs1 ++ xs2)) = H5 at s5 hT5
    refine ⟨_, rfl, .inl ⟨rfl, _, .inl (.inl hT5)⟩, ?_⟩
    refine Gv.go (K := K) (d := .tuple [.tuple [.int 61, .none, .none], .str "BadMap", .str "-2"]) (gv_tup (gva_cons (gv_tup (gva_cons gv_int (gva_cons gv_non (gva_cons gv_non gva_nil))) (by simp)) (gva_cons gv_str (gva_cons gv_str gva_nil))) (by simp)) fun v6 H6 s6 hv6 => ?_
    have hT6 := s6 _ _ hT5
    refine ⟨t3, _, _, rfl, rfl, hT6, by rw [List.length_append]; exact small1000 (by omega), ?_⟩
    have s7 : Same H4 (upd H6 t3 (.lst ((xs1 ++ xs2) ++ [v6]))) := fun b o e => by
      rw [upd_ne (ne_of_none e ht3)]
      exact s6 _ _ (s5 _ _ e)
    have hv7 : Dp K (upd H6 t3 (.lst ((xs1 ++ xs2) ++ [v6]))) v6 (.tuple [.tuple [.int 61, .none, .none], .str "BadMap", .str "-2"]) := by
      refine dp_kp (ex := [t3]) (H := H6) (fun b o nb eb => ?_) (fun b hb => ?_) _ _ rfl hv6
      · rw [upd_ne (fun z => nb (by rw [z]; simp))]
        exact eb
      · rw [List.mem_singleton.mp hb]
        exact ⟨_, hT6, (fun _ y => nomatch y), (fun _ _ y => nomatch y)⟩
    have hT7 : (upd H6 t3 (.lst ((xs1 ++ xs2) ++ [v6]))) t3 = some (.lst ((xs1 ++ xs2) ++ [v6])) := upd_same
    generalize upd H6 t3 (.lst ((xs1 ++ xs2) ++ [v6])) = H7 at s7 hv7 hT7
    have hd7 := dpAll_app (DpAll.same s7 hdA) (.cons hv7 .nil)
    have s07 := ((s1.trans s2).trans s4).trans s7
    have hN7 := Dp.same s07 hN
    have hR7 := Dp.same s07 hR
    have hW7 := Dp.same s07 hW
    have hb7 := Dp.same ((s2.trans s4).trans s7) hb
    have hdT7 : ∃ xsA esA, H7 t3 = some (.lst xsA) ∧ DpAll K H7 xsA esA ∧ esA = (es1 ++ es2) ++ [.tuple [.tuple [.int 61, .none, .none], .str "BadMap", .str "-2"]] := ⟨_, _, hT7, hd7, rfl⟩
    obtain ⟨xsA, esA, hTA, hdA', eA⟩ := hdT7
    have lenA : esA.length = 6 := by rw [eA, List.length_append, List.length_append, len1, len2]; rfl
    have lxA := dpAll_length hdA'
    refine ⟨_, rfl, lst_gvN (K := K) (gva_cons (gv_tup (gva_cons (gv_tup (gva_cons (gv_var rfl hN7) (gva_cons gv_non (gva_cons (gv_var rfl hW7) gva_nil))) (by simp)) (gva_cons gv_str (gva_cons gv_str gva_nil))) (by simp)) (gva_cons (gv_tup (gva_cons (gv_tup (gva_cons (gv_var rfl hN7) (gva_cons (gv_var rfl hb7) (gva_cons gv_non gva_nil))) (by simp)) (gva_cons gv_str (gva_cons (gv_str1 (gv_len (gv_var rfl hR7)) (by simp; omega)) gva_nil))) (by simp)) gva_nil)) (by simp) fun t4 xs3 H8 ht4 s8 hT8 hd8 => ?_⟩
    generalize ees3 : (_ :: _ : List PyData) = es3 at hd8
    have len3 : es3.length = 2 := by rw [← ees3]; rfl
    have lx3 := dpAll_length hd8
    refine ⟨t3, t4, _, xs3, rfl, rfl, s8 _ _ hTA, hT8, by rw [sizeLine_eq]; omega, fun t5 ht5 => ?_⟩
    have s9 : Same H8 (upd H8 t5 (.lst (xsA ++ xs3))) := same_upd ht5
    have hT9 : (upd H8 t5 (.lst (xsA ++ xs3))) t5 = some (.lst (xsA ++ xs3)) := upd_same
    generalize upd H8 t5 (.lst (xsA ++ xs3)) = H9 at s9 hT9
    have hd9 := dpAll_app (DpAll.same (s8.trans s9) hdA') (DpAll.same s9 hd8)
    have hN9 := Dp.same (s8.trans s9) hN7
    have hR9 := Dp.same (s8.trans s9) hR7
    have hW9 := Dp.same (s8.trans s9) hW7
    refine ⟨_, rfl, lst_gvN (K := K) (gva_cons (gv_tup (gva_cons (gv_tup (gva_cons (gv_var rfl hN9) (gva_cons (gv_var rfl hR9) (gva_cons gv_non gva_nil))) (by simp)) (gva_cons gv_str (gva_cons gv_str gva_nil))) (by simp)) gva_nil) (by simp) fun t6 xs4 H10 ht6 s10 hT10 hd10 => ?_⟩
    generalize ees4 : (_ :: _ : List PyData) = es4 at hd10
    have len4 : es4.length = 1 := by rw [← ees4]; rfl
    have lx4 := dpAll_length hd10
    refine ⟨t5, t6, _, xs4, rfl, rfl, s10 _ _ hT9, hT10, by rw [List.length_append, sizeLine_eq]; omega, fun t7 ht7 => ?_⟩
    have s11 : Same H10 (upd H10 t7 (.lst ((xsA ++ xs3) ++ xs4))) := same_upd ht7
    have hT11 : (upd H10 t7 (.lst ((xsA ++ xs3) ++ xs4))) t7 = some (.lst ((xsA ++ xs3) ++ xs4)) := upd_same
    generalize upd H10 t7 (.lst ((xsA ++ xs3) ++ xs4)) = H11 at s11 hT11
    have hd11 := dpAll_app (DpAll.same (s10.trans s11) hd9) (DpAll.same s11 hd10)
    have hN11 := Dp.same (s10.trans s11) hN9
    have hR11 := Dp.same (s10.trans s11) hR9
    have hW11 : Dp K H11 (.ref wd) (.tuple (C.wished.map nD)) := Dp.same (s10.trans s11) hW9
    have lw := up_len ok.upW ok.inW
    refine ⟨_, rfl, lst_gvN (K := K) (gva_cons (gv_tup (gva_cons (gv_tup (gva_cons (gv_var rfl hN11) (gva_cons (gv_var rfl hR11) (gva_cons (gv_cat (gv_var rfl hW11) (gv_tup (gva_cons (gv_neg gv_int) gva_nil) (by simp)) (by simp; omega)) gva_nil))) (by simp)) (gva_cons gv_str (gva_cons (gv_str1 (gv_len (gv_var rfl hW11)) (by simp; omega)) gva_nil))) (by simp)) gva_nil) (by simp) fun t8 xs5 H12 ht8 s12 hT12 hd12 => ?_⟩
    generalize ees5 : (_ :: _ : List PyData) = es5 at hd12
    have len5 : es5.length = 1 := by rw [← ees5]; rfl
    have lx5 := dpAll_length hd12
    refine ⟨t7, t8, _, xs5, rfl, rfl, s12 _ _ hT11, hT12, by rw [List.length_append, List.length_append, sizeLine_eq]; omega, fun t9 ht9 => ?_⟩
    have s13 : Same H12 (upd H12 t9 (.lst (((xsA ++ xs3) ++ xs4) ++ xs5))) := same_upd ht9
    refine q t9 _ _ _ upd_same (dpAll_app (DpAll.same (s12.trans s13) hd11) (DpAll.same s13 hd12)) (by simp only [List.length_append, lenA, len3, len4, len5]) (fun d hd' => ?_) (s07.trans ((s8.trans s9).trans ((s10.trans s11).trans (s12.trans s13))))
    rw [eA, ← ees1, ← ees2, ← ees3, ← ees4, ← ees5] at hd'
    simp only [List.mem_append, List.mem_cons, List.not_mem_nil, or_false] at hd'
    rcases hd' with ((((((h | h | h) | h | h) | h) | h | h) | h) | h)
    all_goals subst h
    · exact ⟨_, _, -1, by rw [txt_m1], rfl, .map, by decide, by decide⟩
    · exact ⟨_, _, -1, by rw [txt_m1], rfl, .map, by decide, by decide⟩
    · exact ⟨_, _, -2, by rw [txt_m2], rfl, .map, by decide, by decide⟩
    · exact ⟨_, _, -2, by rw [txt_m2], rfl, .map, by decide, by decide⟩
    · exact ⟨_, _, -2, by rw [txt_m2], rfl, .map, by decide, by decide⟩
    · exact ⟨_, _, -2, by rw [txt_m2], rfl, .map, by decide, by decide⟩
    · exact ⟨_, _, -3, by rw [txt_m3], (err_chart ok _ _).trans (mapErrN_map rfl), .map, by decide, by decide⟩
    · refine ⟨_, _, _, rfl, (err_chart ok _ _).trans (mapErrN_map ?_), .map, by rw [List.length_map]; omega, by rw [List.length_map]; omega⟩
      show (if (C.roads.map pairD ++ [PyData.tuple [.int 0, nD C.n]]).length ≤ 240 then optI (badRoad C.n none 0 (C.roads.map pairD ++ [PyData.tuple [.int 0, nD C.n]])) else some (-3)) = _
      rw [if_pos (by rw [List.length_append, List.length_map]; simp; omega), badRoad_bad pair_beyond ok.upR ok.inR (fun _ _ => rfl), Nat.zero_add, List.length_map]
      rfl
    · exact ⟨_, _, -1, by rw [txt_m1], (err_chart ok _ _).trans (mapErrN_wish (roads_none ok) rfl), .wish, by decide, by decide⟩
    · refine ⟨_, _, _, rfl, (err_chart ok _ _).trans (mapErrN_wish (roads_none ok) ?_), .wish, by rw [List.length_map]; omega, by rw [List.length_map]; omega⟩
      show optI (badPlace C.n (-1) 0 (C.wished.map nD ++ [.int (-1)])) = _
      rw [badPlace_bad (fun b hb => by
        cases e : numIn (b + 1) ((C.n : Int) - 1) (.int (-1)) with
        | false => rfl
        | true =>
          have := numIn_int.mp e
          omega) (by decide) ok.upW ok.inW (fun _ _ => by omega), Nat.zero_add, List.length_map]
      rfl
end
end Ft

set_option Elab.async false
set_option linter.all false
set_option maxRecDepth 100000
set_option maxHeartbeats 4000000
/-! A def that calls the lambda it gets and shows data by repr: called where nothing is guarded. -/
namespace Ft
open PySem PySem.Spec PyProof.Rows L2
open LamX (TabB TabS Tabs ExtN CodeO LamS lamSB lamS_by lamEnv tLam)
structure CalLG (P : Program) (w : World) (K : PySem.W.Frag) (mg : Str → Option Value) (base : Heap) (x : Str) (TT : (XK → Hp → VK → Prop) → Hp → VK → Prop) : Prop where
  ex : ∃ (g : Addr) (oc : Value) (od : Option Addr) (kV doc pm : Value) (an : Option Addr) (cdv ct : Value) (osl : Array (Option Value)) (st : Stmt) (Ng : List Str) (a : Str),
    K.lookup g = some ⟨oc, od, .func (PySem.W.fnOf x x (L2.defArgs st) (L2.defBody st) (L2.defScope st) .none kV doc pm an cdv ct), osl⟩ ∧ PySem.W.codeIn K cdv x = true ∧ PySem.W.keepIn K (.ref g) = true ∧ mg x = some (.ref g) ∧
    Binds K (PySem.W.fnOf x x (L2.defArgs st) (L2.defBody st) (L2.defScope st) .none kV doc pm an cdv ct) [a] [] ∧ FnScope Ng [a] (L2.defScope st) ∧ Ng[0]? = some a ∧ Vis (L2.defScope st) a ∧ (a == ("__debug__" : Str)) = false ∧ (a == ("__classdict__" : Str)) = false ∧
    ∀ (X : Cx) (q : Str), X.prog = P → X.w = w → X.K = K → X.mg = mg → X.base = base → X.A.guards = some [] → Room 1 X.A → GivesToN X Ng x (L2.defScope st) g cdv (L2.defBody st) a q TT
theorem pe_lG {X : Cx} {T : List (Addr × Str)} {TT : (XK → Hp → VK → Prop) → Hp → VK → Prop} {x : Str} {c P : Addr} (k : Nat) {j : Nat} {params : Arguments} {body : Expr} {scope : Scope} {t : XK → TE} {p lpos pos : Pos} (cl : CalLG X.prog X.w X.K X.mg X.base x TT) (hg : Gl X x)
    (TB : TabB X.base X.mg c P) (hcode : X.env.code = .ref c) (hmT : T = [(P, X.env.qual ++ "<lambda>")]) (hr : Room j X.A) (hk : k + 2 ≤ j) (L : LamS X.env.scope scope) (hdef : defaultsOf params X.env = ([], []))
    (hbind : ∀ (q : Str) (cl : List (Str × Addr)) (pm cv ctv : Value), bindArgs (PySem.W.kla_fn "<lambda>" q params body scope cl pm cv ctv) ⟨[], []⟩ = pure [])
    (hbody : ∀ (A : Around) (outer : List Env) (s : Shared) (H : Hp) (E : XK) (f c' : Addr), Room k (A.deeper (lamEnv X scope s.heap.objs.size f c')) → PE (lamCxN X A outer s H E scope f c') body (t E))
    (hG : X.A.guards = some []) (hdb : (x == ("__debug__" : Str)) = false := by decide) :
    PE X (.Call (.Name x p) [.Lambda params body scope lpos] [] pos) (tLam T TT t) := by
  obtain ⟨g, oc, od, kV, doc, pm, an, cdv, ct, osl, st, Ng, a, lk, hcd, kp, hm, b, S, h0, hv, hd, hcl, gv⟩ := cl.ex
  subst hmT
  exact pe_lamcallN (k := k) hg hm kp lk hcd b S h0 hv (gv X _ rfl rfl rfl rfl rfl hG (hr.mono (by omega))) TB hcode (by simp) (fun p hp _ => by rw [List.mem_singleton.mp hp]) (hr.mono hk) L hdef hbind hbody hdb hd hcl
theorem calLG_of {P : Program} {w : World} {K : PySem.W.Frag} {mg : Str → Option Value} {base : Heap} {x a : Str} {st : Stmt} {N : List Str} {TT : (XK → Hp → VK → Prop) → Hp → VK → Prop} (D : Def K mg x st) (S : FnScope N [a] (L2.defScope st)) (h0 : N[0]? = some a) (hv : Vis (L2.defScope st) a)
    (bd : ∀ (kV doc pm : Value) (an : Option Addr) (cdv ct : Value) (us : List Value), us.length = ([a] : List Str).length → bindArgs (PySem.W.fnOf x x (L2.defArgs st) (L2.defBody st) (L2.defScope st) .none kV doc pm an cdv ct) ⟨us, []⟩ = pure (([a] : List Str).zip us))
    (body : ∀ (X : Cx) (q : Str), X.prog = P → X.w = w → X.K = K → X.mg = mg → X.base = base → X.A.guards = some [] → Room 1 X.A → ∀ (g : Addr) (cdv : Value) (f c' : Addr) (s : Shared) (H : Hp) (Q : VK) (tl : XK → Hp → VK → Prop),
      (∀ (W : WX) (pn : List (Addr × Obj)) (xe : Value → Shared → Prop) (E : XK) (p1 p2 : Pos), L2N.Takes ((cxOf L2.CX0 P w K mg base N x (L2.defScope st) g cdv X.A X.stack s H L2.E0).tr pn xe) W → (∀ cls d σ' H', E cls d H' → W cls d σ' H') →
        PE ((cxOf L2.CX0 P w K mg base N x (L2.defScope st) g cdv X.A X.stack s H L2.E0).tr pn xe) (.Call (.Name a p1) [] [] p2) (fun σZ HZ Q => σZ[0]? = some (some (.ref f)) ∧ HZ c' = some (CodeO c' q) ∧ tl E HZ Q)) →
      H c' = some (CodeO c' q) → TT tl H Q → ∃ t, PSs (cxOf L2.CX0 P w K mg base N x (L2.defScope st) g cdv X.A X.stack s H L2.E0).nox (L2.defBody st) t ∧ t { nx := fun _ H' => Q .non H', rt := Q } (L2.start N [.ref f]) H)
    (hd : (a == ("__debug__" : Str)) = false := by decide) (hcl : (a == ("__classdict__" : Str)) = false := by decide) : CalLG P w K mg base x TT := by
  obtain ⟨g, fd, F, hm⟩ := D.ex
  obtain ⟨oc, od, kV, doc, pm, an, cdv, ct, osl, rfl, lk, hcd⟩ := F.ex
  refine ⟨g, oc, od, kV, doc, pm, an, cdv, ct, osl, st, N, a, lk, hcd, F.kp, hm, .all (bd kV doc pm an cdv ct), S, h0, hv, hd, hcl, ?_⟩
  intro X q e1 e2 e3 e4 e5 hG hR
  subst e1 e2 e3 e4 e5
  intro f c' s H Q tl act hc h
  exact body X q rfl rfl rfl rfl rfl hG hR g cdv f c' s H Q tl (fun W pn xe E p1 p2 tk hW => act W pn xe E p1 p2 tk hW) hc h
/-- as pe_lG, beside the tables of other defs -/
theorem pe_lTG {X : Cx} {T : List (Addr × Str)} {TT : (XK → Hp → VK → Prop) → Hp → VK → Prop} {x : Str} {c P : Addr} (k : Nat) {j : Nat} {params : Arguments} {body : Expr} {scope : Scope} {t : XK → TE} {p lpos pos : Pos} (cl : CalLG X.prog X.w X.K X.mg X.base x TT) (hg : Gl X x)
    (TB : TabB X.base X.mg c P) (hcode : X.env.code = .ref c) (hmT : (P, X.env.qual ++ "<lambda>") ∈ T) (hu : ∀ p ∈ T, p.1 = P → p.2 = X.env.qual ++ "<lambda>") (hr : Room j X.A) (hk : k + 2 ≤ j) (L : LamS X.env.scope scope) (hdef : defaultsOf params X.env = ([], []))
    (hbind : ∀ (q : Str) (cl : List (Str × Addr)) (pm cv ctv : Value), bindArgs (PySem.W.kla_fn "<lambda>" q params body scope cl pm cv ctv) ⟨[], []⟩ = pure [])
    (hbody : ∀ (A : Around) (outer : List Env) (s : Shared) (H : Hp) (E : XK) (f c' : Addr), Room k (A.deeper (lamEnv X scope s.heap.objs.size f c')) → PE (lamCxN X A outer s H E scope f c') body (t E))
    (hG : X.A.guards = some []) (hdb : (x == ("__debug__" : Str)) = false := by decide) :
    PE X (.Call (.Name x p) [.Lambda params body scope lpos] [] pos) (tLam T TT t) := by
  obtain ⟨g, oc, od, kV, doc, pm, an, cdv, ct, osl, st, Ng, a, lk, hcd, kp, hm, b, S, h0, hv, hd, hcl, gv⟩ := cl.ex
  exact pe_lamcallN (k := k) hg hm kp lk hcd b S h0 hv (gv X _ rfl rfl rfl rfl rfl hG (hr.mono (by omega))) TB hcode hmT hu (hr.mono hk) L hdef hbind hbody hdb hd hcl
end Ft

set_option Elab.async false
set_option linter.all false
set_option maxRecDepth 100000
set_option maxHeartbeats 4000000
/-! isinstance of the error that a suite holds, whose class is known only then and which has a dict of its own. -/
namespace Ft
open PySem PySem.Spec PyProof.Rows L2
/-- what a class says so that isinstance asks its errors rightly -/
structure IsC (K : PySem.W.Frag) (C : Addr) : Prop where
  cl : (PySem.W.clsIn K C).isSome = true
  ga : PySem.W.findIn K (.ref C) "__getattribute__" = some (some (.builtin "BaseException.__getattribute__"))
  gg : PySem.W.findIn K (.ref C) "__getattr__" = some none
  ex : PySem.W.subIn K (.ref C) (.type "BaseException") = some true
  ha : PySem.W.findIn K (.ref C) "__class__" = some (some (.builtin "object.__class__"))
  hn : PySem.W.specialIn K (.builtin "object.__class__") "__get__" = some (some (.builtin "getset_descriptor.__get__"))
  ht : PySem.W.takesIn K (.builtin "object.__class__") = some true
  hm : PySem.W.mroIn K C (.type "object") = some true
def rIsX (K : PySem.W.Frag) (a : Addr) (cls : Value) (d : Option Addr) (cv : Value) : List V → Hp → VK → Prop := fun xs H Q => ∃ (c : V) (b : Bool) (C dd : Addr) (v : V), xs = [.ref a, c] ∧ (∀ u, RelV c u → u = cv) ∧ cls = .ref C ∧ IsC K C ∧ d = some dd ∧ H dd = some (.xd [("what", v)]) ∧ PySem.W.kitOne K (.ref C) cv = some b ∧ Q (.bl b) H
theorem call_isX {X : Cx} {a : Addr} {oe : Obj} {cls : Value} {d : Option Addr} {cv : Value} {pn : List (Addr × Obj)} (hz : L2N.Zn cls d oe) (hf : ∃ vs, oe.data = .fields vs) : CallR (X.suite a ((a, oe) :: pn)) (.builtin "isinstance") (rIsX X.K a cls d cv) := by
  intro pins s σ H xs us Q I r h
  obtain ⟨c, b, C, dd, v, rfl, hcv, rfl, ic, rfl, hdd, e, q⟩ := h
  cases r with
  | cons rx rr =>
    cases rr with
    | cons rt rr =>
      cases rr
      cases rx
      have ec := hcv _ rt
      subst ec
      obtain ⟨ha, _⟩ := I.pin (a, oe) (List.mem_append_left _ List.mem_cons_self)
      obtain ⟨vs, hd⟩ := hf
      have hx : ObjOk X.prog X.w H s.heap dd (.xd [("what", v)]) := I.hok dd _ hdd
      obtain ⟨mA, hns, hr⟩ := hx
      obtain ⟨od, ho, hl⟩ := lookIn_ns hns
      have J : PySem.W.InstAt s.heap a oe C (some od) := ⟨ha, hz.1, by unfold PySem.W.notCls; rw [hd] <;> rfl, by rw [hz.2.1]; exact ho⟩
      exact PySem.W.kia_one (PySem.W.kitx_exc ic.cl ic.ga ic.gg ic.ex ic.ha ic.hn ic.ht ic.hm) I.kIn J e (fun z => nomatch z) fun tk => ⟨.bl b, H, I.kept (t' := tk) fun _ _ z => z, rfl, q⟩
/-- an error of class c is one of class d, too; of the builtin one d -/
def Kit (K : PySem.W.Frag) (ca : Str → Addr) (c d : Str) : Prop := PySem.W.kitOne K (.ref (ca c)) (.ref (ca d)) = some true
def KitB (K : PySem.W.Frag) (ca : Str → Addr) (c : Str) (d : String) : Prop := PySem.W.kitOne K (.ref (ca c)) (.type d) = some true
end Ft

set_option Elab.async false
set_option linter.all false
set_option maxRecDepth 100000
set_option maxHeartbeats 4000000
/-! The end of a walk while an error is handled whose own context is None. -/
namespace Ft
open PySem PySem.Spec PyProof.Rows HotX
section
variable {prog : Program} {w : World} {A : Around} {E : Value → Shared → Prop} {s : Shared}
/-- the walk's end is told by a new StopIteration -/
theorem stop_hot {α : Type} {x1 : Addr} {Q : α → Shared → Prop} (hot : HotAt A x1 s.heap)
    (hE : ∀ h' e, (∀ b o, s.heap.get? b = some o → h'.get? b = some o) → (∃ o, h'.get? e = some o ∧ o.cls = .type "StopIteration") → E (.ref e) { s with heap := h' }) : wpAny (model prog w) A (newExc (.type "StopIteration") [] >>= raiseNew : Sem α) Q E s := by
  obtain ⟨hh, o1, vs1, h1, d1, c1⟩ := hot
  refine wpAny_bind ?_
  simp only [newExc, newTuple]
  refine wpAny_bind (wpAny_newObj_type ?_ (by size_fits))
  refine wpAny_bind (m := firstArgMember _ _) (wpAny_of_eq (a := Value.none) (by simp only [firstArgMember]; rfl) ?_)
  refine wpAny_newObj_type ?_ (by size_fits)
  refine raiseNew_hot ⟨hh, o1, vs1, Heap.get?_push_of_some _ (Heap.get?_push_of_some _ h1), d1, c1⟩ (Nat.ne_of_lt (Heap.lt_size (Heap.get?_push_of_some _ h1))) (Heap.get?_push_size _ rfl) rfl (by simp; omega) ?_
  refine hE _ _ (fun b o e => ?_) ⟨_, Heap.get?_update_self _ (Heap.get?_push_size _ rfl) rfl, rfl⟩
  rw [Heap.get?_update_other _ _ (Nat.ne_of_gt (Heap.lt_size (Heap.get?_push_of_some _ e)))]
  exact Heap.get?_push_of_some _ (Heap.get?_push_of_some _ e)
theorem hot_but {x1 it : Addr} {h h' : Heap} (hot : HotAt A x1 h) (ne : x1 ≠ it) (sb : Heap.SameBut it h h') : HotAt A x1 h' := by
  obtain ⟨hh, o1, vs1, h1, d1, c1⟩ := hot
  exact ⟨hh, o1, vs1, (sb.2 x1 ne).trans h1, d1, c1⟩
theorem list_end_hot {it l x1 : Addr} {i : Nat} {items : Array Value} {Q : Value → Shared → Prop} (hot : HotAt A x1 s.heap) (ne : x1 ≠ it)
    (hit : s.heap.IsListIter it l i) (hl : s.heap.IsList l items) (hx : items[i]? = none)
    (hE : ∀ h' e, Heap.ExtBut it s.heap h' → (∃ o, h'.get? e = some o ∧ o.cls = .type "StopIteration") → E (.ref e) { s with heap := h' }) : wpAny (model prog w) A (Builtin.SmallTypes.nextOf (.ref it)) Q E s := by
  obtain ⟨ob, gob, cob, dob⟩ := id hit
  obtain ⟨lo, glo, _, nlo, dlo⟩ := hl
  unfold Builtin.SmallTypes.nextOf
  refine wpAny_bind (wpAny_callSpecial?_slot (name := Str.ofString "__next__") hit.typeIs slot_listiter_next (wpAny_call_entry slot_listiter_next hit.typeIs entry_listiter_next ?_ (args_listiter_next _)))
  refine wpAny_bind (m := field (.ref it) 0) (wpAny_field gob dob (x := .ref l) rfl ?_)
  show wpAny _ _ (if (Value.ref l == Value.none) = true then _ else _) _ _ s
  rw [if_neg (fun z => Bool.false_ne_true z : ¬ ((Value.ref l == Value.none) = true))]
  refine wpAny_bind (m := field (.ref it) 1) (wpAny_field gob dob (x := .int i 0) rfl ?_)
  refine wpAny_bind (m := seqItems? (.ref l)) (wpAny_seqItems glo dlo ?_)
  simp only [Int.toNat_natCast, hx]
  refine wpAny_bind (wpAny_rule (wpAny_bind (wpAny_setField gob dob (by simp) ?_)))
  refine stop_hot (hot_but hot ne (Heap.SameBut.update ..)) fun h' e kept st => ?_
  exact hE h' e (fun b o nb eb => kept b o (by rw [(Heap.SameBut.update ..).2 b nb]; exact eb)) st
theorem enum_end_hot {e it l x1 : Addr} {i : Nat} {items : Array Value} {old : Value} {Q : Option Value → Shared → Prop} (hot : HotAt A x1 s.heap) (ne : x1 ≠ it)
    (he : IsEnum s.heap e it i old) (hit : s.heap.IsListIter it l i) (hl : s.heap.IsList l items) (hx : items[i]? = none)
    (hQ : ∀ h', Heap.ExtBut it s.heap h' → Q none { s with heap := h' }) : wpAny (model prog w) A (pyNext (.ref e)) Q E s := by
  have ty : s.TypeIs (.ref e) "enumerate" := ⟨_, he, rfl⟩
  unfold pyNext
  refine wpAny_bind (wpAny_attempt (wpAny_callSpecial?_slot (name := Str.ofString "__next__") ty F.slot_enumerate_next (wpAny_call_entry F.slot_enumerate_next ty F.entry_enumerate_next ?_ (F.args_enumerate_next_1 _))))
  refine wpAny_bind (m := field (.ref e) 2) (wpAny_field he rfl (x := .ref it) rfl ?_)
  refine wpAny_bind (list_end_hot hot ne hit hl hx fun h' z kept st => ?_)
  obtain ⟨o, ho, hc⟩ := st
  exact wpAny_bind (wpAny_isInstance (T := "StopIteration") (b := true) ⟨o, ho, hc⟩ isSubtype_stop (wpAny_pure (hQ h' kept)))
/-- the end of a tuple's walk -/
theorem tup_end_hot {it t x1 : Addr} {i : Nat} {items : Array Value} {Q : Option Value → Shared → Prop} (hot : HotAt A x1 s.heap) (ne : x1 ≠ it)
    (hit : IsTupIter s.heap it t i) (ht : IsTup s.heap t items) (hx : items[i]? = none)
    (hQ : ∀ h', Heap.ExtBut it s.heap h' → Q none { s with heap := h' }) : wpAny (model prog w) A (pyNext (.ref it)) Q E s := by
  obtain ⟨ob, gob, cob, dob⟩ := id hit
  obtain ⟨lo, glo, _, nlo, dlo⟩ := ht
  unfold pyNext
  refine wpAny_bind (wpAny_attempt (wpAny_callSpecial?_slot (name := Str.ofString "__next__") hit.typeIs slot_tupleiter_next (wpAny_call_entry slot_tupleiter_next hit.typeIs entry_tupleiter_next ?_ (args_tupleiter_next _))))
  refine wpAny_bind (m := field (.ref it) 0) (wpAny_field gob dob (x := .ref t) rfl ?_)
  show wpAny _ _ (if (Value.ref t == Value.none) = true then _ else _) _ _ s
  rw [if_neg (fun z => Bool.false_ne_true z : ¬ ((Value.ref t == Value.none) = true))]
  refine wpAny_bind (m := field (.ref it) 1) (wpAny_field gob dob (x := .int i 0) rfl ?_)
  refine wpAny_bind (m := seqItems? (.ref t)) (wpAny_seqItems glo dlo ?_)
  simp only [Int.toNat_natCast, hx]
  refine wpAny_bind (wpAny_rule (wpAny_bind (wpAny_setField gob dob (by simp) ?_)))
  refine stop_hot (hot_but hot ne (Heap.SameBut.update ..)) fun h' e kept st => ?_
  obtain ⟨o, ho, hc⟩ := st
  refine wpAny_bind (wpAny_isInstance (T := "StopIteration") (b := true) ⟨o, ho, hc⟩ isSubtype_stop (wpAny_pure (hQ h' fun b o nb eb => kept b o ?_)))
  rw [(Heap.SameBut.update ..).2 b nb]
  exact eb
theorem unpacked_hot {t x1 : Addr} {items : Array Value} {Q : List Value → Shared → Prop} (hot : HotAt A x1 s.heap) (ht : IsTup s.heap t items)
    (hQ : ∀ h', Heap.ExtBut s.heap.objs.size s.heap h' → Q items.toList { s with heap := h' }) : wpAny (model prog w) A (unpackItems (.ref t) items.size none) Q E s := by
  obtain ⟨hh, o1, vs1, h1, d1, c1⟩ := hot
  have below : x1 ≠ s.heap.objs.size := Nat.ne_of_lt (Heap.lt_size h1)
  have apart : t ≠ s.heap.objs.size := by obtain ⟨o, ho, _⟩ := id ht; exact Nat.ne_of_lt (Heap.lt_size ho)
  unfold unpackItems
  refine wpAny_bind ?_
  unfold notIterableAtAll
  refine wpAny_bind (wpAny_specialOf ht.typeIs slot_tuple_iter.lookup (wpAny_pure ?_))
  simp only [Bool.false_eq_true, if_false]
  refine wpAny_bind (wpAny_holding (iter_tuple ht (wpAny_bind (wpAny_holding (draw_tuple apart items.size 0 _ _ ⟨_, Heap.get?_push_size _ rfl, rfl, rfl⟩ (ht.push _) (by omega) fun h2 hit2 sb2 => ?_)))))
  have whole : List.take items.size (List.drop 0 items.toList) = items.toList := by rw [List.drop_zero]; exact List.take_of_length_le (by simp)
  rw [whole, if_neg (by simp)]
  refine wpAny_bind (wpAny_holding (tup_end_hot (hot_but ⟨hh, o1, vs1, Heap.get?_push_of_some _ h1, d1, c1⟩ below sb2) below hit2 ((ht.push _).extBut sb2.extBut apart) (by simp) fun h3 kept => ?_))
  simp only [Option.isSome_none, Bool.false_eq_true, if_false]
  exact wpAny_pure (hQ h3 fun b o nb eb => kept b o nb (sb2.extBut b o nb (Heap.get?_push_of_some _ eb)))
theorem assign_hot {env : Env} {elts : List Expr} {k : Nat} {pos : Pos} {t x1 : Addr} {items : Array Value} {Q : Unit → Shared → Prop} (hot : HotAt A x1 s.heap) (ht : IsTup s.heap t items)
    (hn : (assignEach elts env).length = items.size) (hstar : (assignEach elts env).findIdx? (·.1) = none)
    (h : ∀ h', Heap.ExtBut s.heap.objs.size s.heap h' → wpAny (model prog w) A (assignInOrder ((assignEach elts env).map (·.2)) items.toList) Q E { s with heap := h' }) :
    wpAny (model prog w) A (assign (.Tuple elts k pos) env (.ref t)) Q E s := by
  rw [assign_Tuple]
  refine wpAny_bind (wpAny_standAt ?_)
  unfold unpack
  rw [hn, hstar]
  exact wpAny_bind (wpAny_holding (unpacked_hot hot ht h))
end
end Ft
namespace Ft
open PySem PySem.Spec PyProof.Rows L2 L2H HotX
section
variable {P : Program} {w : World} {K : PySem.W.Frag} {elts : List Expr} {kk : Nat} {tpos : Pos}
theorem hot_pin {X : Cx} {pins : List (Addr × Obj)} {σ : L2.St} {H : Hp} {s : Shared} {b : Addr} (hc : HotC X) (I : Inv X pins σ H s) (hb : FpOk X pins H b) : ∃ x1, HotAt X.A x1 s.heap ∧ x1 ≠ b := by
  obtain ⟨p, ⟨hh, vs, e1, c1⟩, hp⟩ := hc
  exact ⟨p.1, ⟨hh, p.2, vs, (I.pin p (List.mem_append_left _ hp)).1, e1, c1⟩, hb.2.2.2.2.2 p (List.mem_append_left _ hp)⟩
/-- enumerate over a list, where an error is handled -/
theorem turn_enumH (a e it : Addr) : TurnH P w K (.Tuple elts kk tpos) (Ite K a) [e, it] e (fun i h => (∃ old, IsEnum h e it ((i : Nat) : Int) old) ∧ h.IsListIter it a i ∧ e ≠ it) where
  mem := (turn_enum (P := P) (w := w) (K := K) (elts := elts) (kk := kk) (tpos := tpos) a e it).mem
  obj := (turn_enum (P := P) (w := w) (K := K) (elts := elts) (kk := kk) (tpos := tpos) a e it).obj
  keep := (turn_enum (P := P) (w := w) (K := K) (elts := elts) (kk := kk) (tpos := tpos) a e it).keep
  self := (turn_enum (P := P) (w := w) (K := K) (elts := elts) (kk := kk) (tpos := tpos) a e it).self
  done := fun X hP hw hK hc i pins s σ H E I hf st hg => by
    subst hP hw hK
    obtain ⟨⟨old, he⟩, hit, ne⟩ := st
    obtain ⟨xs, hq, few⟩ := hg
    obtain ⟨its, rv, pl, _⟩ := I.list hq
    have fit := hf it (by simp)
    obtain ⟨x1, hot, apart⟩ := hot_pin hc I fit
    have len := rv.length
    obtain ⟨g0, g1, g2, g3, g4, g5⟩ := fit
    exact enum_end_hot hot apart he hit pl.isList (by simp; omega) fun h' kept => ⟨rfl, I.turned (t' := s.toks) kept g0 g1 g3 g4 g5⟩
  item := fun X hP hw hK _ i pins s σ H E I hf st hg => by
    subst hP hw hK
    obtain ⟨⟨old, he⟩, hit, ne⟩ := st
    obtain ⟨xs, x, hq, hx⟩ := hg
    obtain ⟨its, rv, pl, _⟩ := I.list hq
    obtain ⟨u, hu, ru⟩ := rv.get hx
    have above : ∀ b ∈ [e, it], b < s.heap.objs.size := fun b hb => by
      simp only [List.mem_cons, List.not_mem_nil, or_false] at hb
      rcases hb with rfl | rfl
      · exact Heap.lt_size he
      · obtain ⟨_, z, _⟩ := hit
        exact Heap.lt_size z
    refine wpAny_pyNext_enum_item he hit pl.isList (x := u) (by simpa using hu) ne fun h1 out hit1 pair _ kept => ⟨_, rfl, wpAny_letOwnedTupleGo_enum (s := { s with heap := h1, toks := s.toks + 1 }) out fun h2 he2 sb => ?_⟩
    have pair2 := (sb.2 _ (Nat.ne_of_gt (above e (by simp)))).trans pair
    have ok2 : ObjOk X.prog X.w (upd H s.heap.objs.size (.tup [.int (i : Nat), x])) h2 s.heap.objs.size (.tup [.int (i : Nat), x]) := ⟨by show 2 ≤ sizeLine; decide, [.int i s.toks, u], .cons ⟨_, rfl⟩ (.cons ru .nil), ⟨_, pair2, rfl, _, rfl⟩⟩
    have I2 : Inv X pins σ (upd H s.heap.objs.size (.tup [.int (i : Nat), x])) { s with heap := h2, toks := s.toks + 1 } := I.turnedNew (ch := [e, it]) (fun b o nb eb => by
      have n1 : b ≠ e := fun z => nb (by simp [z])
      have n2 : b ≠ it := fun z => nb (by simp [z])
      rw [sb.2 b n1]
      exact kept b o n1 n2 eb) hf (Nat.le_refl _) ok2
    refine ⟨.ref s.heap.objs.size, _, I2, rfl, ⟨_, x, rfl, I.hok.fresh (Nat.le_refl _), rfl, fun ys hy => I.list_inj hy hq ▸ hx⟩, ⟨⟨u, ?_⟩, hit1.at fun o z => (sb.2 it (Ne.symm ne)).trans z, ne⟩, fun b hb => ?_⟩
    · rw [show ((i + 1 : Nat) : Int) = (i : Int) + 1 by omega]
      exact he2
    · rw [upd_ne (Nat.ne_of_lt (above b hb))]
      exact (hf b hb).1
end
end Ft
namespace Ft
open PySem PySem.Spec PyProof.Rows L2 L2H HotX
section
variable {X : Cx}
theorem pi_enumH {e : Expr} {ta : TA} {p pos tpos : Pos} {elts : List Expr} {kk : Nat} (hg : Gl X "enumerate") (hm : X.mg "enumerate" = none) (ha : PA X [e] ta) (hs : starEach [e] X.env = [(false, eval e X.env)] := by rfl) :
    PIH X (.Tuple elts kk tpos) (.Call (.Name "enumerate" p) [e] [] pos) (iEnum X.K ta) := by
  refine ⟨fun pins s σ H R I h => Call_ (ld_blt I hg hm boot_enumerate (PyProof.Rows.callWith_type1 (thn (ha.run pos pins s σ H _ I h) fun us s1 got => ?_) hs rfl))⟩
  obtain ⟨vs, H1, I1, rel, a, xs, rfl, hq, q⟩ := got
  rw [Vals.ref1 rel]
  obtain ⟨its, _, pl, _⟩ := I1.list hq
  refine call_enumerate_list pl.isList fun h2 out hit _ kept => wpAny_pyIter_enum out ?_
  refine ⟨s1.heap.objs.size + 1, [s1.heap.objs.size + 1, s1.heap.objs.size], _, _, H1, rfl, I1.kept (t' := s1.toks) kept, turn_enumH a _ _, ⟨⟨.none, out⟩, hit, Nat.succ_ne_self _⟩, fun b hb => ?_, q⟩
  have up : s1.heap.objs.size ≤ b := by
    simp only [List.mem_cons, List.not_mem_nil, or_false] at hb
    rcases hb with z | z
    · rw [z]
      exact Nat.le_succ _
    · rw [z]
      exact Nat.le_refl _
  exact I1.fpOk up (I1.hok.fresh up)
theorem pg_tupH {es : List Expr} {k : Nat} {t : TGs} {n : Nat} {pos : Pos} (hc : HotC X) (h : PGs X es t)
    (hn : (assignEach es X.env).length = n := by rfl) (hst : (assignEach es X.env).findIdx? (·.1) = none := by rfl) : PG X (.Tuple es k pos) (gTup X.K n t) := by
  refine ⟨fun pins s σ H v u Q I r ⟨a, xs, ev, hq, hl, q⟩ => ?_⟩
  subst ev
  cases r
  obtain ⟨its, rv, pt, _⟩ := I.tuple hq
  obtain ⟨x1, hot⟩ := hc.at I
  refine assign_hot hot pt (by simp [hn, ← hl, rv.length]) hst fun h' kept => ?_
  exact h.run pins _ σ H xs _ Q (I.kept (t' := s.toks) fun b o eb => kept b o (Nat.ne_of_lt (Heap.lt_size eb)) eb) (by simpa using rv) q
end
end Ft

set_option Elab.async false
set_option linter.all false
set_option maxRecDepth 100000
set_option maxHeartbeats 4000000
/-! A list comprehension where an error is handled whose own context is None. -/
namespace Ft
open PySem PySem.Spec PyProof.Rows L2 L2H HotX
abbrev hotBlk (X : Cx) (q : Addr × Obj) (s : Shared) (H : Hp) (sc : Scope) (ce : Env) (fp : List Addr) : Cx := { X.blk s H sc ce fp with pn := [q] }
section
variable {X : Cx} {q : Addr × Obj} {pins : List (Addr × Obj)} {σ : L2.St} {H : Hp} {s : Shared} {sc : Scope} {own : List (Str × Nat)} {fp : List Addr}
theorem hot_start (I : Inv X pins σ H s) (ok : BlkOk X.N X.env.scope sc own) (hN : X.N.Nodup) (hfp : ∀ b ∈ fp, FpOk X pins H b ∧ b < s.heap.objs.size) (hq : q ∈ X.pn) :
    Inv (hotBlk X q s H sc (compEnvC sc (cellsFrom (s.heap.objs.size + 1) sc.names (cloFrom X.env.cells sc.names [])) s.heap.objs.size X.env) fp) [] (wipe σ (own.map (·.2))) H { s with heap := pushCells (s.heap.push { cls := .type "dict", data := .dict #[] }) sc.names } := by
  have B := block_start I ok hN hfp
  have O := B.ok
  obtain ⟨there, free, nloc, nfs, ncell⟩ := I.pin q (List.mem_append_left _ hq)
  refine ⟨⟨O.mod, O.kind, O.glob, O.blt, O.above, O.inj, O.has, O.cab, O.hd, O.frames, O.stk, O.exf, O.bs, O.bsz, O.noex, O.exfs, O.funs, O.frf⟩, B.os, B.bare, B.base, B.loc, B.cell, B.free, B.freeC, fun z hz => ?_, B.hok, B.len⟩
  have ez : z = q := by simpa using hz
  subst ez
  refine ⟨pushCells_keeps _ _ _ _ (Heap.get?_push_of_some _ there), free, fun e => ?_, fun m => ?_, ncell⟩
  · have : z.1 = s.heap.objs.size := e
    exact Nat.lt_irrefl _ (this ▸ Heap.lt_size there)
  · have m : z.1 ∈ frs X.stack := m
    rcases I.ok.stk with e | ⟨e, fr⟩
    · rw [e] at m
      exact nfs m
    · rw [e] at m
      obtain ⟨en, hen, eq⟩ := List.mem_filterMap.mp m
      rcases List.mem_cons.mp hen with rfl | hen
      · rw [fr] at eq
        exact nloc (Option.some.inj eq).symm
      · exact nfs (List.mem_filterMap.mpr ⟨en, hen, eq⟩)
end
section
variable {X : Cx} {q : Addr × Obj} {elt tg iter : Expr} {ifs : List Expr} {sc : Scope} {own : List (Str × Nat)} {pos : Pos} {wi : TI} {g : TG} {tt : TT} {te : TE}
theorem pe_lcH (hot : Hot1 X.A q) (hq : q ∈ X.pn) (hN : X.N.Nodup) (hi : PIH X tg iter wi) (ok : BlkOk X.N X.env.scope sc own)
    (hg : ∀ (s : Shared) (H : Hp) (C : Addr) (cl : List (Str × Addr)) (fp : List Addr), PG (hotBlk X q s H sc (compEnvC sc cl C X.env) fp) tg g) (ht : ∀ (s : Shared) (H : Hp) (C : Addr) (cl : List (Str × Addr)) (fp : List Addr), PTs (hotBlk X q s H sc (compEnvC sc cl C X.env) fp) ifs tt)
    (he : ∀ (s : Shared) (H : Hp) (C : Addr) (cl : List (Str × Addr)) (fp : List Addr), PE (hotBlk X q s H sc (compEnvC sc cl C X.env) fp) elt te) (hs : ∀ x, foldedSetIterable iter X.env x = pure x := by intro _; rfl) :
    PE X (.ListComp elt [⟨tg, iter, ifs, 0⟩] sc pos) (tLc wi g tt te (own.map (·.2))) := by
  refine ⟨fun pins s σ H Q I h => ?_⟩
  have caps : ∀ y ∈ sc.names, y.2 = .free → ∃ c, X.env.cells.lookup y.1 = some c := fun y hy e => (ok.free y hy e).elim (fun k => I.ok.has _ (.inl k)) fun k => I.ok.has _ (.inr k)
  rw [eval_ListComp]
  refine wpAny_comprehension_free (use := none) rfl hs (closure_ok caps) ok.kind (fun y hy e => by rw [ok.uniq y hy, e]) (thn (hi.run pins s σ H _ I h) fun xv sA hA => thn hA fun itv sB hB => ?_)
  obtain ⟨it, fp, tn, J, HB, rfl, IB, T, stB, fB, want⟩ := hB
  refine wpAny_newObj_type (newEnv_comp ?_) (by show 0 ≤ sizeLine; decide)
  obtain ⟨D, eD⟩ : ∃ D, sB.heap.objs.size = D := ⟨_, rfl⟩
  have newD : HB D = none := IB.hok.fresh (Nat.le_of_eq eD)
  obtain ⟨W, ⟨m0, w0⟩, turn⟩ := want D newD
  obtain ⟨sC, eC⟩ : ∃ sC : Shared, ({ sB with heap := sB.heap.push { cls := .type "list", data := .seq ([] : List Value).toArray } } : Shared) = sC := ⟨_, rfl⟩
  have heapC : sC.heap = sB.heap.push { cls := .type "list", data := .seq ([] : List Value).toArray } := by rw [← eC]
  have IC : Inv X pins σ (upd HB D (.lst [])) sC := by
    rw [← eC]
    refine IB.laid (t' := sB.toks) (fun b o e => Heap.get?_push_of_some _ e) (Nat.le_of_eq eD) ⟨Nat.zero_le _, [], 0, .nil, ?_⟩
    rw [← eD]
    exact Heap.get?_push_size _ rfl
  have inside : ∀ b ∈ fp, b < sB.heap.objs.size := fun b hb => let ⟨o, e, _⟩ := T.obj _ _ stB b hb; Heap.lt_size e
  have fC : ∀ b ∈ fp, FpOk X pins (upd HB D (.lst [])) b ∧ b < sC.heap.objs.size := fun b hb => by
    refine ⟨⟨?_, (fB b hb).2⟩, by rw [heapC, Heap.size_push]; exact Nat.lt_succ_of_lt (inside b hb)⟩
    rw [upd_ne (by rw [← eD]; exact Nat.ne_of_lt (inside b hb))]
    exact (fB b hb).1
  have ID := hot_start IC ok hN fC hq
  have stC : tn 0 sC.heap := T.keep _ _ _ stB fun b _ o e => by rw [heapC]; exact Heap.get?_push_of_some _ e
  rw [eC, eD]
  have pg := hg sC (upd HB D (.lst [])) sC.heap.objs.size (cellsFrom (sC.heap.objs.size + 1) sc.names (cloFrom X.env.cells sc.names [])) fp
  have pt := ht sC (upd HB D (.lst [])) sC.heap.objs.size (cellsFrom (sC.heap.objs.size + 1) sc.names (cloFrom X.env.cells sc.names [])) fp
  have pe := he sC (upd HB D (.lst [])) sC.heap.objs.size (cellsFrom (sC.heap.objs.size + 1) sc.names (cloFrom X.env.cells sc.names [])) fp
  have outside : ∀ b ∈ fp, (upd HB D (.lst [])) b = none := fun b hb => (fC b hb).1.1
  obtain ⟨ce, ece⟩ : ∃ ce, compEnvC sc (cellsFrom (sC.heap.objs.size + 1) sc.names (cloFrom X.env.cells sc.names [])) sC.heap.objs.size X.env = ce := ⟨_, rfl⟩
  have locals : ce.locals = sC.heap.objs.size := by rw [← ece]; rfl
  rw [ece] at ID pg pt pe
  obtain ⟨HC, eHC⟩ : ∃ HC, upd HB D (.lst []) = HC := ⟨_, rfl⟩
  rw [eHC] at IC ID pg pt pe w0 outside fC
  obtain ⟨sD, eSD⟩ : ∃ sD : Shared, ({ sC with heap := pushCells (sC.heap.push { cls := .type "dict", data := .dict #[] }) sc.names } : Shared) = sD := ⟨_, rfl⟩
  have stD : tn 0 sD.heap := T.keep _ _ _ stC fun b _ o e => by rw [← eSD]; exact pushCells_keeps _ _ _ _ (Heap.get?_push_of_some _ e)
  rw [eSD] at ID
  show codeAny _ _ (.compStart (.ListComp elt [⟨tg, iter, ifs, 0⟩] sc pos) 0 (.ref it) (.ref D) (compEnvC sc (cellsFrom (sC.heap.objs.size + 1) sc.names (cloFrom X.env.cells sc.names [])) sC.heap.objs.size X.env)) _ { sC with heap := pushCells (sC.heap.push { cls := .type "dict", data := .dict #[] }) sc.names }
  rw [ece, eSD]
  have warm : HotC (hotBlk X q sC HC sc ce fp) := ⟨q, hot, List.mem_singleton.mpr rfl⟩
  have still : ∀ {τ : L2.St} {G : Hp} {z : Shared}, Inv (hotBlk X q sC HC sc ce fp) [] τ G z → (∀ b ∈ fp, G b = none) → ∀ b ∈ fp, FpOk (hotBlk X q sC HC sc ce fp) [] G b := fun {τ G z} J hn b hb =>
    ⟨hn b hb, (J.ok.exf b hb).1, J.ok.exfs b hb, .inl hb, (J.ok.exf b hb).2, fun p hp => by
      have ep : p = q := by simpa using hp
      rw [ep]
      exact (fC b hb).1.2.2.2.2.2 q (List.mem_append_left _ hq)⟩
  refine (fun loop => codeAny_compStart_list loop (T.self X.A 0 _ _ _ stD loop)) ?_
  refine compLoop_any (fun n z => ∃ i G, Inv (hotBlk X q sC HC sc ce fp) [] (wipe σ (own.map (·.2))) G z ∧ tn i z.heap ∧ (∀ b ∈ fp, G b = none) ∧ W i n G) ?_ m0 ⟨0, HC, ID, stD, outside, w0⟩
  rintro n z ⟨i, G, JG, stG, outG, wG⟩
  rcases turn i n G wG with ⟨stop, fin⟩ | ⟨go, Nx, less, step⟩
  · refine thnF (T.done (hotBlk X q sC HC sc ce fp) rfl rfl rfl warm i [] z _ G (fun _ _ => False) JG (still JG outG) stG stop) fun r z1 ⟨er, J1⟩ => ?_
    subst er
    have back : Inv X pins σ G z1 := IC.call' (ch := fp) J1.os J1.base J1.hok J1.bare fun b hb => let ⟨_, f1, _, f3, f4, f5⟩ := (fC b hb).1; ⟨f3, f1, f4, f5⟩
    obtain ⟨m, ns, _⟩ := J1.loc
    have freeL : G ce.locals = none := J1.free
    have ns : z1.heap.Ns ce.locals m := ns
    rw [locals] at ns freeL
    obtain ⟨f0, f1, f2, f3, f4, f5⟩ := IC.fpOk (Nat.le_refl _) freeL
    exact ⟨m, ns, fun h2 sb => ⟨.ref D, G, back.turned (t' := z1.toks) (fun b o nb eb => (sb.2 b nb).trans eb) f0 f1 f3 f4 f5, rfl, fin⟩⟩
  · refine thnF (T.item (hotBlk X q sC HC sc ce fp) rfl rfl rfl warm i [] z _ G (fun _ _ => False) JG (still JG outG) stG go) fun r z1 ⟨u, er, more⟩ => ?_
    subst er
    refine thnF more fun _ z2 ⟨x, G2, J2, r2, y2, st2, out2⟩ => ?_
    refine thnF (pg.run _ z2 _ G2 x u _ (J2.pinned (still J2 out2) (T.obj _ _ st2)) r2 (step x G2 y2)) fun _ z3 ⟨τ, G3, J3, wiped, q3⟩ => ?_
    refine thnF (pt.run _ z3 τ G3 _ J3 q3) fun b z4 ⟨G4, J4, q4⟩ => ?_
    have again : ∀ {z5 : Shared} {G5 : Hp}, Inv (hotBlk X q sC HC sc ce fp) ([] ++ pinsAt fp z2.heap) τ G5 z5 → Nx G5 → ∃ m, m < n ∧ ∃ i G, Inv (hotBlk X q sC HC sc ce fp) [] (wipe σ (own.map (·.2))) G z5 ∧ tn i z5.heap ∧ (∀ b ∈ fp, G b = none) ∧ W i m G := fun {z5 G5} J5 nx => by
      obtain ⟨m, lt, w5⟩ := less G5 nx
      have held : ∀ b ∈ fp, ∀ o, z2.heap.get? b = some o → z5.heap.get? b = some o ∧ G5 b = none := fun b hb o e => let k := J5.pin (b, o) (List.mem_append_right _ (List.mem_append_right _ (mem_pinsAt hb e))); ⟨k.1, k.2.1⟩
      refine ⟨m, lt, i + 1, G5, (J5.unpinned (pins := [])).weak (by rw [← wiped, wipe_length]) (fun j v e => by rw [← wiped] at e; exact (wipe_some e).1), T.keep _ _ _ st2 fun b hb o e => (held b hb o e).1, fun b hb => ?_, w5⟩
      obtain ⟨o, e, _⟩ := T.obj _ _ st2 b hb
      exact (held b hb o e).2
    cases b with
    | false => exact again J4 q4
    | true => exact thnF (pe.run _ z4 τ G4 _ J4 q4) fun v z5 ⟨y, G5, J5, r5, acc, hD5, fits, nx⟩ => app_ok (X := hotBlk X q sC HC sc ce fp) J5 hD5 fits r5 fun z6 J6 => again J6 nx
end
end Ft

set_option Elab.async false
set_option linter.all false
set_option maxRecDepth 100000
set_option maxHeartbeats 4000000
/-! Within an except suite: what is handled, its context None. -/
namespace Ft
open PySem PySem.Spec PyProof.Rows L2 L2H HotX
theorem hot_suite {X : Cx} {a : Addr} {oe : Obj} {cls : Value} {d : Option Addr} {pn : List (Addr × Obj)} (hz : L2N.Zn cls d oe) (hf : ∃ vs, oe.data = .fields vs) : Hot1 (X.suite a ((a, oe) :: pn)).A (a, oe) :=
  ⟨rfl, let ⟨vs, e⟩ := hf; ⟨vs, e, hz.2.2 vs e⟩⟩
theorem hot_blk {X : Cx} {q : Addr × Obj} {s : Shared} {H : Hp} {sc : Scope} {ce : Env} {fp : List Addr} (hot : Hot1 X.A q) : HotC (hotBlk X q s H sc ce fp) := ⟨q, hot, List.mem_singleton.mpr rfl⟩
end Ft

set_option Elab.async false
set_option linter.all false
set_option maxRecDepth 100000
set_option maxHeartbeats 4000000
namespace Ft
open PySem PySem.Spec PyProof.Rows L2
/-! x in t, t a tuple of data of any depth; t[i], t a list or a tuple; a class as a value -/
def rInTD (K : PySem.W.Frag) : R2 := fun x y H Q => ∃ d ds, Dp K H x d ∧ Dp K H y (.tuple ds) ∧ SeqAt.shaped d = true ∧ SeqAt.shaped (.tuple ds) = true ∧ Q (.bl (ds.any fun z => PyData.eqv z d)) H
def rNotInTD (K : PySem.W.Frag) : R2 := fun x y H Q => ∃ d ds, Dp K H x d ∧ Dp K H y (.tuple ds) ∧ SeqAt.shaped d = true ∧ SeqAt.shaped (.tuple ds) = true ∧ Q (.bl (!ds.any fun z => PyData.eqv z d)) H
theorem op_inTD {X : Cx} (hu : X.A.units + 65 < cLine) : OpR X (compareOp .In) (rInTD X.K) := by
  intro pins s σ H x y v u Q I rx ry h
  obtain ⟨d, ds, hd, he, sd, se, q⟩ := h
  obtain ⟨as, r1⟩ := Dp.reads I d x v hd rx
  obtain ⟨bs, r2⟩ := Dp.reads I (.tuple ds) y u he ry
  exact SeqAt.in_tuple_reads r2 r1 (SeqAt.canLay_of_shaped se) (SeqAt.canLay_of_shaped sd) (room_in_shaped sd hu) ⟨.bl _, H, I, rfl, q⟩
theorem op_notInTD {X : Cx} (hu : X.A.units + 65 < cLine) : OpR X (compareOp .NotIn) (rNotInTD X.K) := by
  intro pins s σ H x y v u Q I rx ry h
  obtain ⟨d, ds, hd, he, sd, se, q⟩ := h
  obtain ⟨as, r1⟩ := Dp.reads I d x v hd rx
  obtain ⟨bs, r2⟩ := Dp.reads I (.tuple ds) y u he ry
  exact SeqAt.notIn_tuple_reads r2 r1 (SeqAt.canLay_of_shaped se) (SeqAt.canLay_of_shaped sd) (room_in_shaped sd hu) ⟨.bl _, H, I, rfl, q⟩
def rIxA (K : PySem.W.Frag) : R2 := fun x y H Q => rIxL K x y H Q ∨ rIxT K x y H Q
theorem ix_any {X : Cx} : IxR X (rIxA X.K) := fun value slice pins s σ H x y v u Q I rx ry h hs => h.elim (fun h => ix_list value slice pins s σ H x y v u Q I rx ry h hs) (fun h => ix_tup value slice pins s σ H x y v u Q I rx ry h hs)
theorem pe_globC {X : Cx} {x : Str} {C : Addr} {pos : Pos} (hg : Gl X x) (h : X.mg x = some (.ref C)) (hd : (x == ("__debug__" : Str)) = false := by decide) : PE X (.Name x pos) (tC (.ref C)) := pe_glob (v := .ref C) hg h rfl hd
end Ft

set_option Elab.async false
set_option linter.all false
set_option maxRecDepth 100000
set_option maxHeartbeats 8000000
namespace Ft
open PySem PySem.Spec PyProof.Rows L2 L2H
/-- an error of class c is none of class d -/
def KitN (K : PySem.W.Frag) (ca : Str → Addr) (c d : Str) : Prop := PySem.W.kitOne K (.ref (ca c)) (.ref (ca d)) = some false
inductive RW5 : Str → Prop
  | map : RW5 "BadMap"
  | wish : RW5 "BadWish"
  | lot : RW5 "BadLot"
  | free : RW5 "BadFree"
  | place : RW5 "BadPlace"
section
variable {P : Program} {w : World} {K : PySem.W.Frag} {mg : Str → Option Value} {base : Heap} {ca : Str → Addr}
/-- what the names of a refusal are -/
def TTRaised (K : PySem.W.Frag) (ca : Str → Addr) : (XK → Hp → VK → Prop) → Hp → VK → Prop := fun tl H Q => ∃ (Ech : XK) (M : VK), tl Ech H M ∧ (∀ v H1, M v H1 → ∀ v2 H2, Same H1 H2 → Dp K H2 v2 (.tuple [.list [], .str ""]) → Q v2 H2) ∧
  ∀ cls d H', Ech cls d H' → ∃ (x : Str) (dd : Addr) (v : V) (dv : PyData), cls = .ref (ca x) ∧ d = some dd ∧ H' dd = some (.xd [("what", v)]) ∧ RW5 x ∧ Dp K H' v dv ∧ Shows dv ∧ ∀ v2 H2, Same H' H2 → Dp K H2 v2 (.tuple [.list [.str x], .str dv.shown]) → Q v2 H2
def five : List Str := ["BadMap", "BadWish", "BadLot", "BadFree", "BadPlace"]
theorem five_filter {x : Str} (h : RW5 x) : five.filter (fun y => decide (x = y)) = [x] := by
  cases h <;> decide
theorem five_get {i : Nat} {y : Str} (h : five[i]? = some y) : RW5 y := by
  have m := List.mem_of_getElem? h
  simp only [five, List.mem_cons, List.not_mem_nil, or_false] at m
  rcases m with rfl | rfl | rfl | rfl | rfl
  · exact .map
  · exact .wish
  · exact .lot
  · exact .free
  · exact .place
theorem calLG_law_way_raised (T : Txt mg) (D : Def K mg "_law_way_raised" s_law_way_raised) (e_Refused : Er P w K mg base ca "Refused") (e_BadMap : Er P w K mg base ca "BadMap") (e_BadWish : Er P w K mg base ca "BadWish") (e_BadLot : Er P w K mg base ca "BadLot") (e_BadFree : Er P w K mg base ca "BadFree") (e_BadPlace : Er P w K mg base ca "BadPlace")
    (x_BadMap_Refused : Exm K ca "BadMap" "Refused" true) (x_BadWish_Refused : Exm K ca "BadWish" "Refused" true) (x_BadLot_Refused : Exm K ca "BadLot" "Refused" true) (x_BadFree_Refused : Exm K ca "BadFree" "Refused" true) (x_BadPlace_Refused : Exm K ca "BadPlace" "Refused" true) (i_BadMap : IsC K (ca "BadMap")) (i_BadWish : IsC K (ca "BadWish")) (i_BadLot : IsC K (ca "BadLot")) (i_BadFree : IsC K (ca "BadFree")) (i_BadPlace : IsC K (ca "BadPlace"))
    (y_BadMap_BadMap : Kit K ca "BadMap" "BadMap") (y_BadWish_BadWish : Kit K ca "BadWish" "BadWish") (y_BadLot_BadLot : Kit K ca "BadLot" "BadLot") (y_BadFree_BadFree : Kit K ca "BadFree" "BadFree") (y_BadPlace_BadPlace : Kit K ca "BadPlace" "BadPlace")
    (n_BadMap_BadWish : KitN K ca "BadMap" "BadWish") (n_BadMap_BadLot : KitN K ca "BadMap" "BadLot") (n_BadMap_BadFree : KitN K ca "BadMap" "BadFree") (n_BadMap_BadPlace : KitN K ca "BadMap" "BadPlace") (n_BadWish_BadMap : KitN K ca "BadWish" "BadMap") (n_BadWish_BadLot : KitN K ca "BadWish" "BadLot") (n_BadWish_BadFree : KitN K ca "BadWish" "BadFree") (n_BadWish_BadPlace : KitN K ca "BadWish" "BadPlace") (n_BadLot_BadMap : KitN K ca "BadLot" "BadMap") (n_BadLot_BadWish : KitN K ca "BadLot" "BadWish") (n_BadLot_BadFree : KitN K ca "BadLot" "BadFree") (n_BadLot_BadPlace : KitN K ca "BadLot" "BadPlace") (n_BadFree_BadMap : KitN K ca "BadFree" "BadMap") (n_BadFree_BadWish : KitN K ca "BadFree" "BadWish") (n_BadFree_BadLot : KitN K ca "BadFree" "BadLot") (n_BadFree_BadPlace : KitN K ca "BadFree" "BadPlace") (n_BadPlace_BadMap : KitN K ca "BadPlace" "BadMap") (n_BadPlace_BadWish : KitN K ca "BadPlace" "BadWish") (n_BadPlace_BadLot : KitN K ca "BadPlace" "BadLot") (n_BadPlace_BadFree : KitN K ca "BadPlace" "BadFree") : CalLG P w K mg base "_law_way_raised" (TTRaised K ca) := by
  refine calLG_of D sc_law_way_raised rfl (.inl rfl) (fun _ _ _ _ _ _ us hl => match us, hl with | [_], _ => rfl) (fun X q e1 e2 e3 e4 e5 hG hR g cdv f c' s H Q tl act hc h => ?_)
  have hr := hR.deeper (envOfC "_law_way_raised" (L2.defScope s_law_way_raised) s.heap.objs.size g cdv)
  have hU := hr.units
  obtain ⟨Ech, M, ht, hM, hE⟩ := h
  have two : 2 ≤ sizeLine := by decide
  have three : 3 ≤ sizeLine := by decide
  have fve : 5 ≤ sizeLine := by decide
  have KT : ∀ {x y : Str}, RW5 x → RW5 y → PySem.W.kitOne K (.ref (ca x)) (.ref (ca y)) = some (decide (x = y)) := fun {x y} hx hy => by
    cases hx with
    | map => cases hy with | map => exact y_BadMap_BadMap | wish => exact n_BadMap_BadWish | lot => exact n_BadMap_BadLot | free => exact n_BadMap_BadFree | place => exact n_BadMap_BadPlace
    | wish => cases hy with | map => exact n_BadWish_BadMap | wish => exact y_BadWish_BadWish | lot => exact n_BadWish_BadLot | free => exact n_BadWish_BadFree | place => exact n_BadWish_BadPlace
    | lot => cases hy with | map => exact n_BadLot_BadMap | wish => exact n_BadLot_BadWish | lot => exact y_BadLot_BadLot | free => exact n_BadLot_BadFree | place => exact n_BadLot_BadPlace
    | free => cases hy with | map => exact n_BadFree_BadMap | wish => exact n_BadFree_BadWish | lot => exact n_BadFree_BadLot | free => exact y_BadFree_BadFree | place => exact n_BadFree_BadPlace
    | place => cases hy with | map => exact n_BadPlace_BadMap | wish => exact n_BadPlace_BadWish | lot => exact n_BadPlace_BadLot | free => exact n_BadPlace_BadFree | place => exact y_BadPlace_BadPlace
  refine ⟨_, (pss_cons (ps_try_ms rfl rfl sc_law_way_raised.nd takesN0 (fun W pn xe tk po => (pss_one (ps_expr (pe_mid (pe_actE (fun E hW => act W pn xe E _ _ tk hW)))))) (.as (i := 1) rfl rfl ⟨rfl, by decide, .inl (Er.g e_Refused)⟩ (fun a oe cls d pn hz hf => (pss_cons (ps_set (i := 2) sc_law_way_raised.nd rfl (Or.inr rfl) (pe_lst (pa_cons (pe_callB (show CallR _ _ (rIsX K a cls d (.ref (ca "BadMap"))) from call_isX hz hf) (by rfl) T.isinstance (by decide +kernel) (pa_cons (pv 1) (pa_cons (pe_globC (by rfl) (Er.g e_BadMap)) pa_nil))) (pa_cons (pe_callB (show CallR _ _ (rIsX K a cls d (.ref (ca "BadWish"))) from call_isX hz hf) (by rfl) T.isinstance (by decide +kernel) (pa_cons (pv 1) (pa_cons (pe_globC (by rfl) (Er.g e_BadWish)) pa_nil))) (pa_cons (pe_callB (show CallR _ _ (rIsX K a cls d (.ref (ca "BadLot"))) from call_isX hz hf) (by rfl) T.isinstance (by decide +kernel) (pa_cons (pv 1) (pa_cons (pe_globC (by rfl) (Er.g e_BadLot)) pa_nil))) pa_nil)))))
        (pss_cons (ps_set (i := 2) sc_law_way_raised.nd rfl (Or.inr rfl) (pe_op op_cat (pv 2) (pe_lst (pa_cons (pe_callB (show CallR _ _ (rIsX K a cls d (.ref (ca "BadFree"))) from call_isX hz hf) (by rfl) T.isinstance (by decide +kernel) (pa_cons (pv 1) (pa_cons (pe_globC (by rfl) (Er.g e_BadFree)) pa_nil))) (pa_cons (pe_callB (show CallR _ _ (rIsX K a cls d (.ref (ca "BadPlace"))) from call_isX hz hf) (by rfl) T.isinstance (by decide +kernel) (pa_cons (pv 1) (pa_cons (pe_globC (by rfl) (Er.g e_BadPlace)) pa_nil))) pa_nil)))))
        (pss_cons (ps_set (i := 3) sc_law_way_raised.nd rfl (Or.inl rfl) (pe_lst (pa_cons pe_str (pa_cons pe_str (pa_cons pe_str (pa_cons pe_str (pa_cons pe_str pa_nil)))))))
        (pss_one (ps_ret (pe_tup (pa_cons (pe_lcH (own := [("at", 4), ("name", 5)]) (hot_suite hz hf) List.mem_cons_self sc_law_way_raised.nd (show PIH _ _ _ (iEnum K _) from pi_enumH (by rfl) T.enumerate (pa_cons (pv 3) pa_nil)) (blkOk_by (N := ["call", "error", "under", "names", "at", "name"]) (sc := L2.defScope s_law_way_raised) (by decide +kernel)) (fun _ _ _ _ _ => (show PG _ _ (gTup K 2 _) from pg_tupH (hot_blk (hot_suite hz hf)) (pgs_cons (pg_name (i := 4) sc_law_way_raised.nd rfl (Or.inl rfl)) (pgs_cons (pg_name (i := 5) sc_law_way_raised.nd rfl (Or.inl rfl)) pgs_nil)))) (fun _ _ _ _ _ => pts_one (pt_val (pe_ix (show IxR _ (rIxL K) from ix_list) (pv 2) (pv 4) (fun _ _ => rfl)))) (fun _ _ _ _ _ => (pv 5))) (pa_cons (pe_callB (show CallR _ _ (rRepr K) from cr_repr hG hU) (by rfl) T.repr (by decide +kernel) (pa_cons (pe_what hz hf (pv 1)) pa_nil)) pa_nil)))))))))
      .nil))
      (pss_one (ps_ret (pe_tup (pa_cons (pe_lst pa_nil) (pa_cons pe_str pa_nil)))))), ?_⟩
  refine ⟨M, ⟨Ech, fun cls d σ' H' hx => ?_, rfl, hc, ht⟩, fun v H1 hm => ⟨Nat.zero_le _, fun l hl => ⟨two, fun p hp => ?_⟩⟩⟩
  · obtain ⟨x, dd, v, dv, rfl, rfl, hd, hw, hv, shv, hq⟩ := hE cls d H' hx
    have xR : Exm K ca x "Refused" true := by
      cases hw with
      | map => exact x_BadMap_Refused
      | wish => exact x_BadWish_Refused
      | lot => exact x_BadLot_Refused
      | free => exact x_BadFree_Refused
      | place => exact x_BadPlace_Refused
    have ic : IsC K (ca x) := by
      cases hw with
      | map => exact i_BadMap
      | wish => exact i_BadWish
      | lot => exact i_BadLot
      | free => exact i_BadFree
      | place => exact i_BadPlace
    have wc : WhatC K (ca x) := by
      cases hw with
      | map => exact Er.w e_BadMap
      | wish => exact Er.w e_BadWish
      | lot => exact Er.w e_BadLot
      | free => exact Er.w e_BadFree
      | place => exact Er.w e_BadPlace
    refine ⟨true, xR, fun _ a _ hl => ?_, fun h => nomatch h⟩
    obtain ⟨z0, z1, z2, z3, z4, z5, rfl⟩ : ∃ z0 z1 z2 z3 z4 z5, σ' = [z0, z1, z2, z3, z4, z5] := match σ', hl with
      | [z0, z1, z2, z3, z4, z5], _ => ⟨_, _, _, _, _, _, rfl⟩
    clear hl hx
    refine ⟨.ref a, rfl, .ref (ca "BadMap"), _, _, dd, v, rfl, (fun u h => h), rfl, ic, rfl, hd, KT hw .map, ?_⟩
    refine ⟨.ref a, rfl, .ref (ca "BadWish"), _, _, dd, v, rfl, (fun u h => h), rfl, ic, rfl, hd, KT hw .wish, ?_⟩
    refine ⟨.ref a, rfl, .ref (ca "BadLot"), _, _, dd, v, rfl, (fun u h => h), rfl, ic, rfl, hd, KT hw .lot, ?_⟩
    refine ⟨three, fun l1 hl1 => ?_⟩
    have s1 : Same H' (upd H' l1 (.lst [.bl (decide (x = "BadMap")), .bl (decide (x = "BadWish")), .bl (decide (x = "BadLot"))])) := same_upd hl1
    have hL1 : (upd H' l1 (.lst [.bl (decide (x = "BadMap")), .bl (decide (x = "BadWish")), .bl (decide (x = "BadLot"))])) l1 = some (.lst [.bl (decide (x = "BadMap")), .bl (decide (x = "BadWish")), .bl (decide (x = "BadLot"))]) := upd_same
    generalize upd H' l1 (.lst [.bl (decide (x = "BadMap")), .bl (decide (x = "BadWish")), .bl (decide (x = "BadLot"))]) = H1 at s1 hL1
    have hd1 := s1 _ _ hd
    refine ⟨_, rfl, ?_⟩
    refine ⟨.ref a, rfl, .ref (ca "BadFree"), _, _, dd, v, rfl, (fun u h => h), rfl, ic, rfl, hd1, KT hw .free, ?_⟩
    refine ⟨.ref a, rfl, .ref (ca "BadPlace"), _, _, dd, v, rfl, (fun u h => h), rfl, ic, rfl, hd1, KT hw .place, ?_⟩
    refine ⟨two, fun l2 hl2 => ?_⟩
    have s2 : Same H1 (upd H1 l2 (.lst [.bl (decide (x = "BadFree")), .bl (decide (x = "BadPlace"))])) := same_upd hl2
    have hL2 : (upd H1 l2 (.lst [.bl (decide (x = "BadFree")), .bl (decide (x = "BadPlace"))])) l2 = some (.lst [.bl (decide (x = "BadFree")), .bl (decide (x = "BadPlace"))]) := upd_same
    generalize upd H1 l2 (.lst [.bl (decide (x = "BadFree")), .bl (decide (x = "BadPlace"))]) = H2 at s2 hL2
    refine ⟨l1, l2, _, _, rfl, rfl, s2 _ _ hL1, hL2, fve, fun l3 hl3 => ?_⟩
    generalize eH3 : upd H2 l3 _ = H3
    have s3 : Same H2 H3 := by rw [← eH3]; exact same_upd hl3
    have hL3 : H3 l3 = some (.lst (five.map fun y => V.bl (decide (x = y)))) := by rw [← eH3]; exact upd_same
    clear eH3
    refine at_seq ⟨fve, fun l4 hl4 => ?_⟩
    refine at_name ?_
    generalize eH4 : upd H3 l4 _ = H4
    have s4 : Same H3 H4 := by rw [← eH4]; exact same_upd hl4
    have hL4 : H4 l4 = some (.lst (five.map V.str)) := by rw [← eH4]; exact upd_same
    clear eH4
    have s04 := ((s1.trans s2).trans s3).trans s4
    have hL34 := s4 _ _ hL3
    have hd4 := s04 _ _ hd
    refine ⟨_, rfl, l4, _, rfl, .inl (.inl hL4), fun D hD => ?_⟩
    have keep : ∀ {H' : Hp}, Kp [D] H4 H' → Same H4 H' := fun {H'} k b o e' => k b o (fun m => by rw [List.mem_singleton.mp m, hD] at e'; cases e') e'
    refine by_turns (walk_enum (K := K) (a := l4) (xs := five.map V.str)) (fun i H' => Kp [D] H4 H' ∧ H' D = some (.lst (((five.take i).filter fun y => decide (x = y)).map V.str)))
      ⟨(fun b o nb e' => by rw [upd_ne (ne_of_none e' hD)]; exact e'), upd_same⟩ (fun i H' _ ⟨k, _⟩ => .inl (.inl (keep k _ _ hL4))) ?_ ?_
    · rintro i y H5 H6 hi ⟨k5, hD5⟩ ⟨T1, x1, y1, rfl, hT1, rfl, e1, e2⟩
      cases e1
      obtain ⟨nm, hnm, rfl⟩ := get_map e2
      have i5 : i < five.length := (List.getElem?_eq_some_iff.mp hnm).1
      have i5' : i < 5 := i5
      have s6 : Same H5 (upd H5 T1 (.tup [.int (i : Nat), .str nm])) := same_upd hT1
      have hT6 : (upd H5 T1 (.tup [.int (i : Nat), .str nm])) T1 = some (.tup [.int (i : Nat), .str nm]) := upd_same
      generalize upd H5 T1 (.tup [.int (i : Nat), .str nm]) = H6 at s6 hT6
      have hD6 := s6 _ _ hD5
      have hL6 := s6 _ _ (keep k5 _ _ hL34)
      have k6 : Kp [D] H4 H6 := k5.trans (Same.kp s6)
      refine ⟨T1, _, rfl, .inl (.inl hT6), rfl, _, _, rfl, _, _, rfl, rfl, rfl, ?_⟩
      refine ⟨_, rfl, _, rfl, l3, _, _, _, rfl, rfl, .inl (.inl hL6), atI_nat (v := V.bl (decide (x = nm))) (by rw [List.getElem?_map, hnm]; rfl), _, rfl, ?_⟩
      have tk : five.take (i + 1) = five.take i ++ [nm] := take_more hnm
      refine ite_any (fun e => ?_) (fun e => ⟨k6, by rw [tk, List.filter_append, List.filter_cons, if_neg (by rw [e]; decide), List.filter_nil, List.append_nil]; exact hD6⟩)
      refine ⟨_, rfl, _, hD6, ?_, ?_, ?_⟩
      · rw [List.length_map, sizeLine_eq]
        have := List.length_filter_le (fun y => decide (x = y)) (five.take i)
        rw [List.length_take] at this
        omega
      · intro z o nz ez
        rw [upd_ne (fun y => nz (by rw [y]; simp))]
        exact k6 z o nz ez
      · rw [upd_same, tk, List.filter_append, List.filter_cons, if_pos e, List.filter_nil, List.map_append]
        rfl
    · rintro H5 ⟨k5, hD5⟩
      have s5 := keep k5
      rw [List.length_map, List.take_of_length_le (Nat.le_refl _), five_filter hw] at hD5
      have hd5 := s5 _ _ hd4
      have s05 := s04.trans s5
      refine ⟨.ref a, rfl, rfl, _, dd, v, rfl, wc, rfl, hd5, _, dv, rfl, Dp.same s05 hv, shv, ?_⟩
      refine ⟨two, fun p hp => ?_⟩
      have s6 := same_upd (o := .tup [.ref D, .str dv.shown]) hp
      exact hq (.ref p) _ (s05.trans s6) (.tup (.inl (.inl upd_same)) (.cons (.lst (.inl (.inl (s6 _ _ hD5))) (.cons (.str _) .nil)) (.cons (.str _) .nil)))
  · have s1 := same_upd (o := .lst []) hl
    have s2 := same_upd (o := .tup [.ref l, .str ""]) hp
    exact hM v H1 hm (.ref p) _ (s1.trans s2) (.tup (.inl (.inl upd_same)) (.cons (.lst (.inl (.inl (s2 _ _ upd_same))) .nil) (.cons (.str _) .nil)))
end
end Ft

set_option Elab.async false
set_option linter.all false
set_option maxRecDepth 100000
set_option maxHeartbeats 8000000
namespace Ft
open PySem PySem.Spec PyProof.Rows L2
theorem piece_self {C : Chart} {a : Nat} (h : a < C.n) : a ∈ pieceOf C a := by
  unfold pieceOf
  by_cases hw : a ∈ C.wished
  · rw [if_pos hw]
    exact List.mem_singleton.mpr rfl
  · rw [if_neg hw]
    exact those_mem.mpr ⟨h, hw, .inl rfl⟩
theorem piece_up (C : Chart) (a : Nat) : (pieceOf C a).Pairwise (· < ·) := by
  unfold pieceOf
  by_cases hw : a ∈ C.wished
  · rw [if_pos hw]
    exact List.pairwise_singleton _ _
  · rw [if_neg hw]
    exact those_up _ _
theorem piece_lt {C : Chart} {a b : Nat} (ha : a < C.n) (h : b ∈ pieceOf C a) : b < C.n := by
  unfold pieceOf at h
  by_cases hw : a ∈ C.wished
  · rw [if_pos hw] at h
    rw [List.mem_singleton.mp h]
    exact ha
  · rw [if_neg hw] at h
    exact (those_mem.mp h).1
/-- rows of places at the addresses ts -/
def RowsAt (K : PySem.W.Frag) (H : Hp) (ts : List Addr) (lls : List (List Nat)) : Prop := Paired (fun (t : Addr) (l : List Nat) => SqT K H t (l.map vN)) ts lls
theorem RowsAt.keep {K : PySem.W.Frag} {ex : List Addr} {H H' : Hp} (k : Kp ex H H') (l : Lists ex H) {ts : List Addr} {lls : List (List Nat)} (h : RowsAt K H ts lls) : RowsAt K H' ts lls := paired_imp (fun _ _ q => k.sqT l q) h
theorem RowsAt.same {K : PySem.W.Frag} {H H' : Hp} (k : Same H H') {ts : List Addr} {lls : List (List Nat)} (h : RowsAt K H ts lls) : RowsAt K H' ts lls := paired_imp (fun _ _ q => Same.sqT k q) h
theorem paired_app {α β : Type} {R : α → β → Prop} : ∀ {as as' : List α} {bs bs' : List β}, Paired R as bs → Paired R as' bs' → Paired R (as ++ as') (bs ++ bs')
  | _, _, _, _, .nil, h => h
  | _, _, _, _, .cons r t, h => .cons r (paired_app t h)
/-- whether a place is the least one of its piece -/
noncomputable def isLeast (C : Chart) (a : Nat) : Bool := decide ((pieceOf C a).head? = some a)
noncomputable def piecesL (C : Chart) : List (List Nat) := ((unw C).filter (isLeast C)).map (pieceOf C)
section
variable {P : Program} {w : World} {K : PySem.W.Frag} {mg : Str → Option Value} {base : Heap} {t1 t2 : Tok}
end
end Ft

set_option Elab.async false
set_option linter.all false
set_option maxRecDepth 100000
set_option maxHeartbeats 8000000
namespace Ft
open PySem PySem.Spec PyProof.Rows L2
/-- the draws' pool stands at p, its further cells at l -/
def PoolAt (H : Hp) (p l : Addr) : Prop := ∃ (a b : Int) (cs : List Int), H p = some (.lst [.int a, .int b, .ref l]) ∧ H l = some (.lst (cs.map V.int)) ∧ 0 ≤ a ∧ 0 ≤ b
theorem PoolAt.ne {H : Hp} {p l : Addr} (h : PoolAt H p l) : p ≠ l := by
  obtain ⟨a, b, cs, h1, h2, _⟩ := h
  intro e
  subst e
  have z := Option.some.inj (h1.symm.trans h2)
  have z2 : ([V.int a, V.int b, V.ref p] : List V) = cs.map V.int := by injection z
  have z3 : V.ref p ∈ cs.map V.int := by rw [← z2]; simp
  obtain ⟨c, _, e⟩ := List.mem_map.mp z3
  exact nomatch e
theorem PoolAt.lists {H : Hp} {p l : Addr} (h : PoolAt H p l) : Lists [p, l] H := by
  obtain ⟨a, b, cs, h1, h2, _⟩ := h
  intro x hx
  rcases List.mem_cons.mp hx with e | hx
  · rw [e]
    exact ⟨_, h1, (fun _ z => nomatch z), (fun _ _ z => nomatch z)⟩
  · rw [List.mem_singleton.mp hx]
    exact ⟨_, h2, (fun _ z => nomatch z), (fun _ _ z => nomatch z)⟩
theorem PoolAt.same {H H' : Hp} {p l : Addr} (k : Same H H') (h : PoolAt H p l) : PoolAt H' p l := by
  obtain ⟨a, b, cs, h1, h2, h3⟩ := h
  exact ⟨a, b, cs, k _ _ h1, k _ _ h2, h3⟩
theorem PoolAt.free {H : Hp} {p l : Addr} (h : PoolAt H p l) {q : Addr} (n : H q = none) : q ∉ [p, l] := by
  obtain ⟨a, b, cs, h1, h2, _⟩ := h
  intro m
  rcases List.mem_cons.mp m with e | m
  · rw [e, h1] at n
    cases n
  · rw [List.mem_singleton.mp m, h2] at n
    cases n
theorem ints_shaped (cs : List Int) : SeqAt.shaped (.list (cs.map .int)) = true := by
  unfold SeqAt.shaped
  have h1 : ∀ cs : List Int, PyData.canLayAll0 (cs.map .int) = true := by
    intro cs
    induction cs with
    | nil => simp [PyData.canLayAll0]
    | cons c cs ih => simp [PyData.canLayAll0, PyData.canLay0, ih]
  have h2 : PyData.depth (.list (cs.map .int)) = 1 := by
    simp only [PyData.depth, PySem.W.depth_ints]
  rw [h2]
  simp [PyData.canLay0, h1]
section
variable {P : Program} {w : World} {K : PySem.W.Frag} {mg : Str → Option Value} {base : Heap} {t1 t2 : Tok}
/-! ### _law_pool -/
def sp_law_pool (K : PySem.W.Frag) : Sp := fun vs H Q _ => ∃ (a : Addr) (ns : List Int), vs = [.ref a] ∧ SqL K H a (ns.map V.int) ∧ ∀ p l H', Same H H' → H p = none → H l = none → PoolAt H' p l → Q (.ref p) H'
theorem cal_law_pool (T : Txt mg) (D : Def K mg "_law_pool" s_law_pool) : Cal P w K mg base 2 "_law_pool" (sp_law_pool K) := by
  refine cal_of D sc_law_pool (fun _ _ _ _ _ _ us hl => match us, hl with | [_], _ => rfl) (fun vs H Q E h => ?_) (fun f cdv A outer s H vs Q E hr h => ?_)
  · obtain ⟨a, ns, rfl, _⟩ := h
    rfl
  · obtain ⟨a, ns, rfl, hS, q⟩ := h
    refine ⟨_, (pss_cons (ps_set (i := 1) sc_law_pool.nd rfl (Or.inl rfl) (pe_mid (pe_ifExp (pt_cmpR op_gt (pe_callB (show CallR _ _ (rLenS K) from call_lenS) (by rfl) T.len (by decide +kernel) (pa_cons (pv 0) pa_nil)) pe_int (nomark _)) (pe_callTy call_int1 (by rfl) T.int (by decide +kernel) (pa_cons (pe_ix (show IxR _ (rIxL K) from ix_list) (pv 0) pe_int (fun _ _ => rfl)) pa_nil)) pe_int)))
      (pss_cons (ps_set (i := 2) sc_law_pool.nd rfl (Or.inl rfl) (pe_mid (pe_ifExp (pt_cmpR op_ge (pv 1) pe_int (nomark _)) (pe_op op_mul pe_int (pv 1)) (pe_op op_sub (pe_un un_neg pe_int) (pe_op op_mul pe_int (pv 1))))))
      (pss_one (ps_ret (pe_lst (pa_cons (pe_mid (pe_ifExp (pt_cmpR op_ge (pv 2) (pe_op op_pow pe_int pe_int) (nomark _)) (pv 2) pe_int)) (pa_cons (pe_op op_add (pe_op op_mod (pe_callTy call_int1 (by rfl) T.int (by decide +kernel) (pa_cons (pe_op op_add (pe_op op_mul (pv 2) pe_int) pe_int) pa_nil)) pe_int) pe_int) (pa_cons (pe_callTy (show CallR _ _ (rListOf K) from call_listOf) (by rfl) T.list (by decide +kernel) (pa_cons (pe_slice (show SlR _ (rSlL K) from sl_list) (pv 0) (po_some pe_int) po_none) pa_nil)) pa_nil)))))))), ?_⟩
    refine ⟨fun v H' => ∃ x : Int, v = .int x ∧ H' = H, ⟨_, rfl, a, _, rfl, .inl hS, _, _, rfl, rfl, _, rfl, ite_any (fun h => ?_) (fun h => ⟨0, rfl, rfl⟩)⟩, ?_⟩
    · have h0 := of_decide_eq_true h
      cases ns with
      | nil => exact absurd h0 (by simp)
      | cons n0 ns => exact ⟨_, rfl, a, _, _, _, rfl, rfl, hS, atI_nat (j := 0) (v := V.int n0) rfl, .inl ⟨_, rfl, _, rfl, rfl⟩⟩
    rintro v H1 ⟨x, rfl, rfl⟩
    refine ⟨fun v H' => ∃ x : Int, v = .int x ∧ H' = H1 ∧ 0 ≤ x, ⟨_, rfl, _, _, rfl, rfl, _, rfl, ite_any (fun h => ?_) (fun h => ?_)⟩, ?_⟩
    · have h0 := of_decide_eq_true h
      exact ⟨_, rfl, _, _, rfl, rfl, .inl ⟨by decide, by decide⟩, _, rfl, rfl, by omega⟩
    · have h0 := of_decide_eq_false h
      exact ⟨_, rfl, _, rfl, _, _, rfl, rfl, .inl ⟨by decide, by decide⟩, _, _, rfl, rfl, _, rfl, rfl, by omega⟩
    rintro v H2 ⟨y, rfl, rfl, hy⟩
    refine ⟨fun v H' => ∃ x : Int, v = .int x ∧ H' = H2 ∧ 0 ≤ x, ⟨_, rfl, _, _, rfl, rfl, ⟨by decide, by decide, by decide⟩, _, _, rfl, rfl, _, rfl, ite_any (fun h => ⟨_, rfl, y, rfl, rfl, hy⟩) (fun h => ⟨0, rfl, rfl, by decide⟩)⟩, ?_⟩
    rintro v H3 ⟨z, rfl, rfl, hz⟩
    refine ⟨_, rfl, _, _, rfl, rfl, .inr ⟨by decide, by decide⟩, _, _, rfl, rfl, .inl ⟨_, rfl, _, _, rfl, rfl, (by show (0 : Int) < 2147483629; decide), _, _, rfl, rfl, ?_⟩⟩
    refine ⟨_, rfl, _, rfl, a, _, rfl, hS, fun e he => ?_⟩
    refine ⟨e, _, rfl, .inl (.inl (.inl upd_same)), fun l hl => ?_⟩
    refine ⟨by show 3 ≤ sizeLine; decide, fun p hp => ?_⟩
    have nel : e ≠ l := ne_of_none upd_same hl
    have npl : l ≠ p := ne_of_none upd_same hp
    have hl0 : H3 l = none := by rw [upd_ne nel.symm] at hl; exact hl
    have s1 : Same H3 (upd (upd H3 e (.lst (cutV (ns.map V.int) (some 1) none))) l (.lst (cutV (ns.map V.int) (some 1) none))) := (same_upd he).trans (same_upd hl)
    refine q p l _ (s1.trans (same_upd hp)) (s1.free hp) hl0 ?_
    refine ⟨z, _, (cutV (ns.map V.int) (some 1) none).map (fun v => match v with | .int i => i | _ => 0), upd_same, ?_, hz, ?_⟩
    · rw [upd_ne npl, upd_same]
      congr 2
      rw [List.map_map]
      conv => lhs; rw [← List.map_id (cutV (ns.map V.int) (some 1) none)]
      refine List.map_congr_left fun v hv => ?_
      have : v ∈ ns.map V.int := by
        unfold cutV at hv
        exact List.mem_of_mem_drop (List.mem_of_mem_take hv)
      obtain ⟨i, _, rfl⟩ := List.mem_map.mp this
      rfl
    · have := Int.emod_nonneg (y * 48271 + 1009) (show (2147483629 : Int) ≠ 0 by decide)
      omega
/-! ### _law_draw -/
def sp_law_draw : Sp := fun vs H Q _ => ∃ (p l : Addr) (m : Nat), vs = [.ref p, vN m] ∧ PoolAt H p l ∧ 0 < m ∧ m < 1073741824 ∧ ∀ (r : Nat) H', r < m → PoolAt H' p l → Kp [p, l] H H' → Q (vN r) H'
theorem cal_law_draw (T : Txt mg) (D : Def K mg "_law_draw" s_law_draw) : Cal P w K mg base 2 "_law_draw" sp_law_draw := by
  refine cal_of D sc_law_draw (fun _ _ _ _ _ _ us hl => match us, hl with | [_, _], _ => rfl) (fun vs H Q E h => ?_) (fun f cdv A outer s H vs Q E hr h => ?_)
  · obtain ⟨p, l, m, rfl, _⟩ := h
    rfl
  · obtain ⟨p, l, m, rfl, hP, m0, m1, q⟩ := h
    have hU := hr.units
    have npl := hP.ne
    refine ⟨_, (ps_cut (ps_if (PW.pt (pw_and (pt_cmpR op_eq (pe_ix (show IxR _ (rIxL K) from ix_list) (pv 0) pe_int (fun _ _ => rfl)) pe_int (nomark _)) (pw_and1 (pt_cmpR (show OpR _ _ (rNeD K) from op_neD hU) (pe_ix (show IxR _ (rIxL K) from ix_list) (pv 0) pe_int (fun _ _ => rfl)) (pe_lst pa_nil) (nomark _))))) (pss_cons (ps_set (i := 2) sc_law_draw.nd rfl (Or.inl rfl) (pe_callTy call_int1 (by rfl) T.int (by decide +kernel) (pa_cons (pe_bm PySem.F.plainAttrs_list PySem.F.slot_list_pop PySem.F.type_list_pop mt_popAt (pe_ix (show IxR _ (rIxL K) from ix_list) (pv 0) pe_int (fun _ _ => rfl)) (pa_cons pe_int pa_nil)) pa_nil)))
        (pss_cons (ps_set (i := 3) sc_law_draw.nd rfl (Or.inl rfl) (pe_mid (pe_ifExp (pt_cmpR op_ge (pv 2) pe_int (nomark _)) (pe_op op_mul pe_int (pv 2)) (pe_op op_sub (pe_un un_neg pe_int) (pe_op op_mul pe_int (pv 2))))))
        (pss_cons (ps_asg (pe_mid (pe_ifExp (pt_cmpR op_ge (pv 3) (pe_op op_pow pe_int pe_int) (nomark _)) (pv 3) pe_int)) (pg_sub (pv 0) pe_int set_list))
        (pss_one (ps_asg (pe_op op_add (pe_op op_mod (pe_callTy call_int1 (by rfl) T.int (by decide +kernel) (pa_cons (pe_op op_add (pe_ix (show IxR _ (rIxL K) from ix_list) (pv 0) pe_int (fun _ _ => rfl)) (pe_op op_mul (pv 3) pe_int)) pa_nil)) pe_int) pe_int) (pg_sub (pv 0) pe_int set_list)))))) pss_nil)
      (pss_cons (ps_if (pt_cmpR op_gt (pe_ix (show IxR _ (rIxL K) from ix_list) (pv 0) pe_int (fun _ _ => rfl)) pe_int (nomark _)) (pss_cons (ps_set (i := 4) sc_law_draw.nd rfl (Or.inl rfl) (pe_op op_mod (pe_callTy call_int1 (by rfl) T.int (by decide +kernel) (pa_cons (pe_ix (show IxR _ (rIxL K) from ix_list) (pv 0) pe_int (fun _ _ => rfl)) pa_nil)) (pv 1)))
        (pss_cons (ps_asg (pe_op op_fdiv (pe_ix (show IxR _ (rIxL K) from ix_list) (pv 0) pe_int (fun _ _ => rfl)) (pv 1)) (pg_sub (pv 0) pe_int set_list))
        (pss_one (ps_ret (pv 4))))) pss_nil)
      (pss_cons (ps_asg (pe_op op_mod (pe_callTy call_int1 (by rfl) T.int (by decide +kernel) (pa_cons (pe_op op_add (pe_op op_mul (pe_ix (show IxR _ (rIxL K) from ix_list) (pv 0) pe_int (fun _ _ => rfl)) pe_int) pe_int) pa_nil)) pe_int) (pg_sub (pv 0) pe_int set_list))
      (pss_one (ps_ret (pe_op op_mod (pe_op op_fdiv (pe_op op_mod (pe_callTy call_int1 (by rfl) T.int (by decide +kernel) (pa_cons (pe_op op_mul (pe_ix (show IxR _ (rIxL K) from ix_list) (pv 0) pe_int (fun _ _ => rfl)) (pe_ix (show IxR _ (rIxL K) from ix_list) (pv 0) pe_int (fun _ _ => rfl))) pa_nil)) pe_int) pe_int) (pv 1))))))), ?_⟩
    refine ⟨fun σ' H' => ∃ v2 v3 : Option V, σ' = [some (.ref p), some (vN m), v2, v3, none] ∧ PoolAt H' p l ∧ Kp [p, l] H H', ?_, ?_⟩
    · obtain ⟨a, b, cs, h1, h2, ha, hb⟩ := id hP
      refine ⟨_, rfl, p, _, _, _, rfl, rfl, .inl (.inl h1), rfl, rfl, _, rfl, ite_any (fun _ => ?_) (fun _ => ?_)⟩
      · refine ⟨_, rfl, p, _, _, _, rfl, rfl, .inl (.inl h1), rfl, Nat.zero_le _, fun e he => ?_⟩
        have s1 : Same H (upd H e (.lst [])) := same_upd he
        have nep : p ≠ e := ne_of_none h1 he
        have nel : l ≠ e := ne_of_none h2 he
        have h1' := s1 _ _ h1
        have h2' := s1 _ _ h2
        refine ⟨.list (cs.map .int), .list [], .lst (.inl (.inl h2')) (dpAll_ints cs), .lst (.inl (.inl upd_same)) .nil, ints_shaped cs, rfl, _, rfl, ite_any (fun hc => ?_) (fun _ => ?_)⟩
        · cases cs with
          | nil => exact absurd hc (by decide)
          | cons c cs =>
            have n1 : (-(2 ^ 63) : Int) ≤ 0 := by decide
            have n2 : (0 : Int) < 2 ^ 63 := by decide
            refine ⟨_, rfl, p, _, _, _, rfl, rfl, .inl (.inl h1'), rfl, .inl ⟨rfl, _, .inl (.inl h2')⟩, l, _, 0, 0, .int c, rfl, rfl, h2', n1, n2, ?_, rfl, .inl ⟨_, rfl, ?_⟩⟩
            · simp [seqIndex?]
            have h1b : (upd (upd H e (.lst [])) l (.lst ((List.map V.int (c :: cs)).eraseIdx 0))) p = some (.lst [.int a, .int b, .ref l]) := by rw [upd_ne npl]; exact h1'
            obtain ⟨Hc, eHc⟩ : ∃ Hc, Hc = upd (upd H e (.lst [])) l (.lst ((List.map V.int (c :: cs)).eraseIdx 0)) := ⟨_, rfl⟩
            rw [← eHc] at h1b ⊢
            refine ⟨fun v H' => ∃ x : Int, v = .int x ∧ H' = Hc ∧ 0 ≤ x, ⟨_, rfl, _, _, rfl, rfl, _, rfl, ite_any (fun h => ?_) (fun h => ?_)⟩, ?_⟩
            · have h0 := of_decide_eq_true h
              exact ⟨_, rfl, _, _, rfl, rfl, .inl ⟨by decide, by decide⟩, _, rfl, rfl, by omega⟩
            · have h0 := of_decide_eq_false h
              exact ⟨_, rfl, _, rfl, _, _, rfl, rfl, .inl ⟨by decide, by decide⟩, _, _, rfl, rfl, _, rfl, rfl, by omega⟩
            rintro v H2 ⟨y, rfl, rfl, hy⟩
            refine ⟨fun v H' => ∃ x : Int, v = .int x ∧ H' = H2 ∧ 0 ≤ x, ⟨_, rfl, _, _, rfl, rfl, ⟨by decide, by decide, by decide⟩, _, _, rfl, rfl, _, rfl, ite_any (fun h => ⟨_, rfl, y, rfl, rfl, hy⟩) (fun h => ⟨0, rfl, rfl, by decide⟩)⟩, ?_⟩
            rintro v H3 ⟨z, rfl, rfl, hz⟩
            subst eHc
            refine ⟨_, rfl, p, _, _, 0, rfl, rfl, h1b, rfl, ?_⟩
            refine ⟨_, rfl, p, _, _, _, rfl, rfl, .inl (.inl upd_same), rfl, _, rfl, _, _, rfl, rfl, .inr ⟨by decide, by decide⟩, _, _, rfl, rfl, .inl ⟨_, rfl, _, _, rfl, rfl, (by show (0 : Int) < 2147483629; decide), _, _, rfl, rfl, ?_⟩⟩
            refine ⟨_, rfl, p, _, _, 1, rfl, rfl, upd_same, rfl, ?_⟩
            refine ⟨_, _, rfl, ⟨z, _, cs, upd_same, ?_, hz, ?_⟩, ?_⟩
            · rw [upd_ne npl.symm, upd_ne npl.symm, upd_same]
              rfl
            · have := Int.emod_nonneg (b + y * 69621) (show (2147483629 : Int) ≠ 0 by decide)
              omega
            · intro b' o n e'
              have n1 : b' ≠ p := fun z => n (by rw [z]; simp)
              have n2 : b' ≠ l := fun z => n (by rw [z]; simp)
              rw [upd_ne n1, upd_ne n1, upd_ne n2]
              exact s1 _ _ e'
        · exact ⟨_, _, rfl, hP.same s1, Same.kp s1⟩
      · exact ⟨_, _, rfl, hP, Kp.refl _ _⟩
    · rintro σ' H1 ⟨v2, v3, rfl, ⟨a, b, cs, h1, h2, ha, hb⟩, k1⟩
      refine ⟨_, rfl, p, _, _, _, rfl, rfl, .inl (.inl h1), rfl, _, _, rfl, rfl, _, rfl, ite_any (fun hc => ?_) (fun hc => ?_)⟩
      · refine ⟨_, rfl, p, _, _, _, rfl, rfl, .inl (.inl h1), rfl, .inl ⟨_, rfl, _, rfl, _, _, rfl, rfl, (by show (0 : Int) < (m : Int); omega), ?_⟩⟩
        refine ⟨_, rfl, p, _, _, _, rfl, rfl, .inl (.inl h1), rfl, _, rfl, _, _, rfl, rfl, ⟨by show (0 : Int) < (m : Int); omega, by show (m : Int) < 1073741824; omega⟩, ?_⟩
        refine ⟨_, rfl, p, _, _, 0, rfl, rfl, h1, rfl, ?_⟩
        have h3 := Int.emod_nonneg a (show (m : Int) ≠ 0 by omega)
        have h4 := Int.emod_lt_of_pos a (show (0 : Int) < m by omega)
        refine ⟨_, rfl, ?_⟩
        have e0 : V.int (a % (m : Int)) = vN (a % (m : Int)).toNat := by
          unfold vN
          rw [Int.toNat_of_nonneg h3]
        show Q (V.int (a % (m : Int))) _
        rw [e0]
        refine q _ _ (by omega) ⟨a / m, b, cs, upd_same, by rw [upd_ne npl.symm]; exact h2, Int.ediv_nonneg ha (by omega), hb⟩ ?_
        intro b' o n e'
        rw [upd_ne (fun z => n (by rw [z]; simp))]
        exact k1 _ _ n e'
      · refine ⟨_, rfl, p, _, _, _, rfl, rfl, .inl (.inl h1), rfl, _, _, rfl, rfl, .inr ⟨by decide, by decide⟩, _, _, rfl, rfl, .inl ⟨_, rfl, _, _, rfl, rfl, (by show (0 : Int) < 2147483647; decide), ?_⟩⟩
        refine ⟨_, rfl, p, _, _, 1, rfl, rfl, h1, rfl, ?_⟩
        have h3 := Int.emod_nonneg (b * 48271 + 11) (show (2147483647 : Int) ≠ 0 by decide)
        have h4 := Int.emod_lt_of_pos (b * 48271 + 11) (show (0 : Int) < 2147483647 by decide)
        refine ⟨_, rfl, p, _, _, _, rfl, rfl, .inl (.inl upd_same), rfl, _, rfl, p, _, _, _, rfl, rfl, .inl (.inl upd_same), rfl, _, _, rfl, rfl, .inl ⟨by omega, by omega⟩, .inl ⟨_, rfl, _, _, rfl, rfl, (by show (0 : Int) < 2147483629; decide), ?_⟩⟩
        refine ⟨_, _, rfl, rfl, ⟨by decide, by decide⟩, _, rfl, _, _, rfl, rfl, (by show (0 : Int) < (m : Int); omega), ?_⟩
        have h5 := Int.emod_nonneg ((b * 48271 + 11) % 2147483647 * ((b * 48271 + 11) % 2147483647) % 2147483629 / 32) (show (m : Int) ≠ 0 by omega)
        have h6 := Int.emod_lt_of_pos ((b * 48271 + 11) % 2147483647 * ((b * 48271 + 11) % 2147483647) % 2147483629 / 32) (show (0 : Int) < m by omega)
        show Q (V.int (((b * 48271 + 11) % 2147483647 * ((b * 48271 + 11) % 2147483647) % 2147483629 / 32) % (m : Int))) _
        generalize ((b * 48271 + 11) % 2147483647 * ((b * 48271 + 11) % 2147483647) % 2147483629 / 32) % (m : Int) = z at h5 h6 ⊢
        have e0 : V.int z = vN z.toNat := by
          unfold vN
          rw [Int.toNat_of_nonneg h5]
        rw [e0]
        refine q _ _ (by omega) ⟨a, (b * 48271 + 11) % 2147483647, cs, upd_same, by rw [upd_ne npl.symm]; exact h2, ha, h3⟩ ?_
        intro b' o n e'
        rw [upd_ne (fun z => n (by rw [z]; simp))]
        exact k1 _ _ n e'
end
end Ft

set_option Elab.async false
set_option linter.all false
set_option maxRecDepth 100000
set_option maxHeartbeats 8000000
namespace Ft
open PySem PySem.Spec PyProof.Rows L2
theorem seqIndex_nat {r n : Nat} (h : r < n) : seqIndex? (r : Int) n = some r := by
  unfold seqIndex?
  have h0 : ¬ ((r : Int) < 0) := by omega
  have h1 : (r : Int) < n := by omega
  have h2 : (0 : Int) ≤ (r : Int) := by omega
  simp [h0, h1, h2]
theorem map_erase {α β : Type} (f : α → β) : ∀ (l : List α) (i : Nat), (l.map f).eraseIdx i = (l.eraseIdx i).map f
  | [], _ => rfl
  | _ :: _, 0 => rfl
  | a :: l, i + 1 => congrArg (f a :: ·) (map_erase f l i)
theorem cons_erase {α : Type} : ∀ {l : List α} {r : Nat} {x : α}, l[r]? = some x → (x :: l.eraseIdx r).Perm l
  | [], _, _, h => by simp at h
  | a :: l, 0, x, h => by
    have e : a = x := by simpa using h
    rw [e]
    exact List.Perm.refl _
  | a :: l, r + 1, x, h => (List.Perm.swap a x (l.eraseIdx r)).trans ((cons_erase (l := l) (r := r) (by simpa using h)).cons a)
theorem rgV_nat (n : Nat) : rgV 0 (n : Int) = (List.range n).map vN := by
  unfold rgV
  have e : ((n : Int) - 0).toNat = n := by omega
  rw [e]
  refine List.map_congr_left fun i _ => ?_
  show V.int (0 + (i : Int)) = V.int (i : Int)
  rw [Int.zero_add]
section
variable {P : Program} {w : World} {K : PySem.W.Frag} {mg : Str → Option Value} {base : Heap} {t1 t2 : Tok}
/-! ### _law_pick, of a list -/
def sp_law_pick (K : PySem.W.Frag) : Sp := fun vs H Q _ => ∃ (p l t : Addr) (xs : List V), vs = [.ref p, .ref t] ∧ PoolAt H p l ∧ SqL K H t xs ∧ t ∉ [p, l] ∧ 0 < xs.length ∧ xs.length < 1073741824 ∧ ∀ x H', x ∈ xs → PoolAt H' p l → Kp [p, l] H H' → Q x H'
/-! ### _law_turned -/
def sp_law_turned (K : PySem.W.Frag) : Sp := fun vs H Q _ => ∃ (p l : Addr) (m : Nat), vs = [.ref p, vN m] ∧ PoolAt H p l ∧ m ≤ 1000 ∧ ∀ (q : Addr) (perm : List Nat) (H' : Hp), perm.Perm (List.range m) → H q = none → H' q = some (.lst (perm.map vN)) → PoolAt H' p l → Kp [p, l] H H' → Q (.ref q) H'
theorem cal_law_turned (T : Txt mg) (D : Def K mg "_law_turned" s_law_turned) (c_law_draw : Cal P w K mg base 2 "_law_draw" sp_law_draw) : Cal P w K mg base 3 "_law_turned" (sp_law_turned K) := by
  refine cal_of D sc_law_turned (fun _ _ _ _ _ _ us hl => match us, hl with | [_, _], _ => rfl) (fun vs H Q E h => ?_) (fun f cdv A outer s H vs Q E hr h => ?_)
  · obtain ⟨p, l, m, rfl, _⟩ := h
    rfl
  · obtain ⟨p, l, m, rfl, hP, m1, q⟩ := h
    refine ⟨_, (pss_cons (ps_par (i := 2) (j := 3) (by rfl) sc_law_turned.nd rfl rfl (by decide) rfl rfl (pa_cons (pe_listRg rfl (by rfl) T.list (prg_1 (by rfl) T.range (pv 1))) (pa_cons (pe_lst pa_nil) pa_nil)) (by rfl))
      (pss_cons (ps_for PassesOwn.never rfl (pi_range1 (by rfl) T.range (pa_cons (pv 1) pa_nil)) (pg_name (i := 4) sc_law_turned.nd rfl (Or.inl rfl)) (pss_one (ps_expr (pe_bm PySem.F.plainAttrs_list PySem.F.slot_list_append PySem.F.type_list_append mt_append (pv 3) (pa_cons (pe_bm PySem.F.plainAttrs_list PySem.F.slot_list_pop PySem.F.type_list_pop mt_popAt (pv 2) (pa_cons (pe_c c_law_draw hr (by decide) (by rfl) (pa_cons (pv 0) (pa_cons (pe_callB (show CallR _ _ (rLenS K) from call_lenS) (by rfl) T.len (by decide +kernel) (pa_cons (pv 2) pa_nil)) pa_nil))) pa_nil)) pa_nil)))))
      (pss_one (ps_ret (pv 3))))), ?_⟩
    refine ⟨_, rfl, _, rfl, .of_le (by omega) (by omega) (by omega) (by omega), fun a ha => ?_⟩
    have s1 : Same H (upd H a (.lst (rgV 0 (m : Int)))) := same_upd ha
    have hA : (upd H a (.lst (rgV 0 (m : Int)))) a = some (.lst ((List.range m).map vN)) := by rw [upd_same, rgV_nat]
    generalize upd H a (.lst (rgV 0 (m : Int))) = H1 at s1 hA
    refine ⟨Nat.zero_le _, fun d hd => ?_⟩
    have nad : a ≠ d := ne_of_none hA hd
    have s2 : Same H1 (upd H1 d (.lst [])) := same_upd hd
    refine ⟨_, _, rfl, ?_⟩
    have k0 : ∀ b, b ∈ [p, l] → b ≠ a ∧ b ≠ d := by
      intro b hb
      obtain ⟨o, e, _⟩ := hP.lists b hb
      exact ⟨ne_of_none e ha, ne_of_none (s1 _ _ e) hd⟩
    refine ⟨_, rfl, _, rfl, by omega, by omega, for_range (lo := 0) (n := m) (fun i σ H' => ∃ (L F : List Nat) (v4 : Option V), σ = [some (.ref p), some (vN m), some (.ref a), some (.ref d), v4] ∧ PoolAt H' p l ∧ Kp [p, l] H H' ∧ H' a = some (.lst (L.map vN)) ∧ H' d = some (.lst (F.map vN)) ∧ (F ++ L).Perm (List.range m) ∧ F.length = i)
      ⟨List.range m, [], _, rfl, (hP.same s1).same s2, Same.kp (s1.trans s2), s2 _ _ hA, upd_same, List.Perm.refl _, rfl⟩ ?_ ?_⟩
    · rintro i σ H2 hi ⟨L, F, v4, rfl, hP2, k2, hL, hF, pm, eF⟩
      have len := pm.length_eq
      rw [List.length_append, List.length_range, eF] at len
      refine ⟨_, rfl, .inl ⟨rfl, _, .inl (.inl hF)⟩, _, rfl, .inl ⟨rfl, _, .inl (.inl hL)⟩, ?_⟩
      refine ⟨_, rfl, _, rfl, a, _, rfl, .inl (.inl (.inl hL)), p, l, L.length, ?_, hP2, by omega, by omega, fun r H3 hr3 hP3 k3 => ?_⟩
      · rw [List.length_map]
        rfl
      have na : a ∉ [p, l] := fun m => (k0 a m).1 rfl
      have nd : d ∉ [p, l] := fun m => (k0 d m).2 rfl
      have hL3 := k3 _ _ na hL
      have hF3 := k3 _ _ nd hF
      obtain ⟨x, hx⟩ : ∃ x, L[r]? = some x := ⟨_, List.getElem?_eq_getElem hr3⟩
      refine ⟨a, _, (r : Int), r, vN x, rfl, rfl, hL3, by omega, by omega, seqIndex_nat (by rw [List.length_map]; exact hr3), by rw [List.getElem?_map, hx]; rfl, ?_⟩
      have hF4 : (upd H3 a (.lst ((L.map vN).eraseIdx r))) d = some (.lst (F.map vN)) := by rw [upd_ne nad.symm]; exact hF3
      refine ⟨d, _, _, rfl, rfl, hF4, by rw [List.length_map, eF]; exact small1000 (by omega), L.eraseIdx r, F ++ [x], _, rfl, ?_, ?_, ?_, ?_, ?_, by rw [List.length_append, eF]; rfl⟩
      · obtain ⟨a1, b1, cs, h1, h2, h3⟩ := hP3
        exact ⟨a1, b1, cs, by rw [upd_ne (k0 p (by simp)).2, upd_ne (k0 p (by simp)).1]; exact h1, by rw [upd_ne (k0 l (by simp)).2, upd_ne (k0 l (by simp)).1]; exact h2, h3⟩
      · intro b o n e
        have na1 : b ≠ a := ne_of_none e ha
        have nd1 : b ≠ d := ne_of_none (s1 _ _ e) hd
        rw [upd_ne nd1, upd_ne na1]
        exact k3 b o n (k2 b o n e)
      · rw [upd_ne nad, upd_same, map_erase]
      · rw [upd_same, List.map_append]
        rfl
      · have pe : (x :: L.eraseIdx r).Perm L := cons_erase hx
        have e1 : F ++ [x] ++ L.eraseIdx r = F ++ (x :: L.eraseIdx r) := by simp
        rw [e1]
        exact (List.Perm.append_left F pe).trans pm
    · rintro σ H2 ⟨L, F, v4, rfl, hP2, k2, hL, hF, pm, eF⟩
      have len := pm.length_eq
      rw [List.length_append, List.length_range, eF] at len
      have eL : L = [] := List.length_eq_zero_iff.mp (by omega)
      subst eL
      rw [List.append_nil] at pm
      exact ⟨_, rfl, q d F H2 pm (s1.free hd) hF hP2 k2⟩
end
end Ft

set_option Elab.async false
set_option linter.all false
set_option maxRecDepth 100000
set_option maxHeartbeats 4000000
namespace Ft
open PySem PySem.Spec PyProof.Rows L2
/-! ### set(xs), xs many ints among few -/
theorem nodup_sub_len {α : Type} [DecidableEq α] : ∀ (l D : List α), l.Nodup → (∀ x ∈ l, x ∈ D) → l.length ≤ D.length
  | [], _, _, _ => Nat.zero_le _
  | x :: l, D, nd, h => by
    obtain ⟨n1, n2⟩ := List.nodup_cons.mp nd
    have hx := h x List.mem_cons_self
    have ih := nodup_sub_len l (D.erase x) n2 fun y hy => (List.mem_erase_of_ne (fun e : y = x => n1 (e ▸ hy))).mpr (h y (List.mem_cons_of_mem _ hy))
    rw [List.length_erase_of_mem hx] at ih
    have := List.length_pos_of_mem hx
    rw [List.length_cons]
    omega
theorem setR_count {w : World} {h : Heap} {a : Addr} {S : Int → Bool} {n : Nat} (R : SetR w h a S n) {D : List Int} (hD : ∀ k, S k = true → k ∈ D) : n ≤ D.length := by
  obtain ⟨o, es, ep, t, _, _, _, _, nd, mem, _, _, e, _⟩ := R
  have := nodup_sub_len _ D nd fun k hk => hD k ((mem k).mpr hk)
  rw [List.length_map, Array.length_toList] at this
  omega
def rSetN (K : PySem.W.Frag) (w : World) : List V → Hp → VK → Prop := fun xs H Q => ∃ (l : Addr) (ns : List Int), xs = [V.ref l] ∧ (SqL K H l (ns.map V.int) ∨ SqT K H l (ns.map V.int)) ∧ ns.length ≤ 1000 ∧
  ∀ (p : Addr) (n : Nat), H p = none → (∀ D : List Int, (∀ k ∈ ns, k ∈ D) → n ≤ D.length) → Q (.ref p) (upd H p (SetO w p (fun j => decide (j ∈ ns)) n))
theorem cr_setN {X : Cx} (hc : X.calm = true) : CallR X (.type "set") (rSetN X.K X.w) := by
  intro pins s σ H xs us Q I r h
  obtain ⟨l, ns, rfl, hl, few, q⟩ := h
  have few1 : ns.length + 1 < scanBound := Nat.lt_of_le_of_lt (Nat.succ_le_succ few) (by decide)
  have free : H s.heap.objs.size = none := I.hok.fresh (Nat.le_refl _)
  rw [Vals.ref1 r]
  rcases hl with hl | hl
  · obtain ⟨its, rv, pl, hz⟩ := I.list hl
    refine set_of_list ns (I.ok.hd hc) pl.isList (by simpa using rv.ints) few1 fun h' tk c hS hc2 hk => ?_
    exact ⟨.ref _, upd H s.heap.objs.size (SetO X.w s.heap.objs.size (fun j => decide (j ∈ ns)) c), I.laid (t' := tk) hk (Nat.le_refl _) (setO_new hS), rfl, q _ _ free fun D hD => setR_count hS fun k hk => hD k (of_decide_eq_true hk)⟩
  · obtain ⟨its, rv, pt, hz⟩ := I.tuple hl
    have pt2 : s.heap.IsTuple l its.toArray := pt
    refine call_set_tupI ns (I.ok.hd hc) pt2 (by simpa using ints_of_vals rv) few1 fun h' tk c hS hc2 hk => ?_
    exact ⟨.ref _, upd H s.heap.objs.size (SetO X.w s.heap.objs.size (fun j => decide (j ∈ ns)) c), I.laid (t' := tk) hk (Nat.le_refl _) (setO_new hS), rfl, q _ _ free fun D hD => setR_count hS fun k hk => hD k (of_decide_eq_true hk)⟩
end Ft

set_option Elab.async false
set_option linter.all false
set_option maxRecDepth 100000
set_option maxHeartbeats 8000000
namespace Ft
open PySem PySem.Spec PyProof.Rows L2
/-! ### rows of two numbers, sorted -/
def two (p : Nat × Nat) : List Int := [(p.1 : Int), (p.2 : Int)]
theorem two_lt {p q : Nat × Nat} (le : two p ≤ two q) (ne : two p ≠ two q) : ltP p q := by
  unfold two at le ne
  rw [List.cons_le_cons_iff] at le
  rcases le with h | ⟨h1, h2⟩
  · exact .inl (by omega)
  · rw [List.cons_le_cons_iff] at h2
    rcases h2 with h | ⟨h3, _⟩
    · exact .inr ⟨by omega, by omega⟩
    · exact absurd (by rw [h1, h3]) ne
theorem two_inj {p q : Nat × Nat} (h : two p = two q) : p = q := by
  unfold two at h
  simp only [List.cons.injEq, and_true] at h
  exact Prod.ext (by omega) (by omega)
theorem rows_two : ∀ (L : List Row), (∀ r ∈ L, ∃ p, r.2 = two p) → ∃ ps : List (Nat × Nat), L.map (·.2) = ps.map two
  | [], _ => ⟨[], rfl⟩
  | r :: L, h => by
    obtain ⟨p, hp⟩ := h r List.mem_cons_self
    obtain ⟨ps, hps⟩ := rows_two L fun q hq => h q (List.mem_cons_of_mem _ hq)
    exact ⟨p :: ps, by rw [List.map_cons, List.map_cons, hp, hps]⟩
theorem rows_up {L : List Row} {ps : List (Nat × Nat)} (e : L.map (·.2) = ps.map two) (up : L.Pairwise fun q r => q.2 ≤ r.2) (nd : (L.map (·.2)).Nodup) : ps.Pairwise ltP := by
  have h1 : (ps.map two).Pairwise (· ≤ ·) := by
    rw [← e]
    exact List.pairwise_map.mpr up
  rw [e] at nd
  have h2 := List.Pairwise.and h1 nd
  exact (List.pairwise_map.mp h2).imp fun h => two_lt h.1 h.2
theorem rows_pairs {K : PySem.W.Frag} {H : Hp} : ∀ {L : List Row} {ps : List (Nat × Nat)}, L.map (·.2) = ps.map two → (∀ r ∈ L, SqT K H r.1 (r.2.map V.int)) → PairsAt K H (L.map (·.1)) ps
  | [], [], _, _ => .nil
  | [], _ :: _, e, _ => nomatch e
  | _ :: _, [], e, _ => nomatch e
  | r :: L, p :: ps, e, h => by
    rw [List.map_cons, List.map_cons] at e
    injection e with e1 e2
    refine .cons ?_ (rows_pairs e2 fun q hq => h q (List.mem_cons_of_mem _ hq))
    have := h r List.mem_cons_self
    rw [e1] at this
    exact this
/-! ### maps whose places are named anew -/
/-- the new name of a place -/
def nm (perm : List Nat) (a : Nat) : Nat := perm.getD a 0
theorem nm_get {perm : List Nat} {a : Nat} (h : a < perm.length) : perm[a]? = some (nm perm a) := by
  unfold nm
  rw [List.getD_eq_getElem?_getD, List.getElem?_eq_getElem h]
  rfl
structure Named (n : Nat) (prs : List (Nat × Nat)) (ws perm : List Nat) (C : Chart) : Prop where
  n : C.n = n
  ok : C.Ok
  roads : ∀ x y, (x, y) ∈ C.roads ↔ ∃ a b, (a, b) ∈ prs ∧ x = nm perm a ∧ y = nm perm b
  wished : ∀ x, x ∈ C.wished ↔ ∃ a ∈ ws, x = nm perm a
theorem perm_lt {perm : List Nat} {n : Nat} (pm : perm.Perm (List.range n)) {a : Nat} (h : a < n) : nm perm a < n := by
  have len : perm.length = n := by rw [pm.length_eq, List.length_range]
  have := List.mem_of_getElem? (nm_get (perm := perm) (a := a) (by rw [len]; exact h))
  exact List.mem_range.mp (pm.mem_iff.mp this)
theorem nm_at {perm : List Nat} {n : Nat} (pm : perm.Perm (List.range n)) {a : Nat} (h : a < n) : atI (perm.map vN) (a : Int) = some (vN (nm perm a)) := by
  have len : perm.length = n := by rw [pm.length_eq, List.length_range]
  refine atI_nat ?_
  rw [List.getElem?_map, nm_get (by rw [len]; exact h)]
  rfl
section
variable {P : Program} {w : World} {K : PySem.W.Frag} {mg : Str → Option Value} {base : Heap} {t1 t2 : Tok}
/-! ### _law_map_named -/
def sp_law_map_named (K : PySem.W.Frag) : Sp := fun vs H Q _ => ∃ (p l ro wi : Addr) (n : Nat) (ts : List Addr) (prs : List (Nat × Nat)) (ws : List Nat), vs = [.ref p, vN n, .ref ro, .ref wi] ∧ PoolAt H p l ∧ n ≤ 60 ∧
  H ro = some (.lst (ts.map V.ref)) ∧ ro ∉ [p, l] ∧ PairsAt K H ts prs ∧ prs.length < 64 ∧ (∀ q ∈ prs, q.1 < n ∧ q.2 < n) ∧ H wi = some (.lst (ws.map vN)) ∧ wi ∉ [p, l] ∧ ws.length < 64 ∧ (∀ a ∈ ws, a < n) ∧
  ∀ (q c na : Addr) (perm : List Nat) (C : Chart) (H' : Hp), perm.Perm (List.range n) → H q = none → H na = none → H' q = some (.lst [.ref c, .ref na]) → IsChart K H' c C → H' na = some (.lst (perm.map vN)) → Named n prs ws perm C → PoolAt H' p l → Kp [p, l] H H' → Q (.ref q) H'
theorem cal_law_map_named (T : Txt mg) (D : Def K mg "_law_map_named" s_law_map_named) (c_law_turned : Cal P w K mg base 3 "_law_turned" (sp_law_turned K)) : Cal P w K mg base 4 "_law_map_named" (sp_law_map_named K) := by
  refine cal_of D sc_law_map_named (fun _ _ _ _ _ _ us hl => match us, hl with | [_, _, _, _], _ => rfl) (fun vs H Q E h => ?_) (fun f cdv A outer s H vs Q E hr h => ?_)
  · obtain ⟨p, l, ro, wi, n, ts, prs, ws, rfl, _⟩ := h
    rfl
  · obtain ⟨p, l, ro, wi, n, ts, prs, ws, rfl, hP, n60, hRo, oR, hPr, fewP, inP, hWi, oW, fewW, inW, q⟩ := h
    have hU := hr.units
    refine ⟨_, (pss_cons (ps_set (i := 4) sc_law_map_named.nd rfl (Or.inr rfl) (pe_c c_law_turned hr (by decide) (by rfl) (pa_cons (pv 0) (pa_cons (pv 1) pa_nil))))
      (pss_cons (ps_set (i := 5) sc_law_map_named.nd rfl (Or.inl rfl) (pe_callTy (show CallR _ _ (rTupleOf K) from call_tupleOf) (by rfl) T.tuple (by decide +kernel) (pa_cons (pe_callB (show CallR _ _ (rSortedS K P w) from cr_sortedSR rfl hU) (by rfl) T.sorted (by decide +kernel) (pa_cons (pe_callTy (show CallR _ _ (rSetOfT K P w) from cr_setOfT rfl hU) (by rfl) T.set (by decide +kernel) (pa_cons (pe_lc (own := [("a", 6), ("b", 7)]) rfl sc_law_map_named.nd (show PI _ _ _ (iList K _) from pi_list (pv 2)) (blkOk_by (N := ["pool", "places", "roads", "wished", "names", "told", "a", "b"]) (sc := L2.defScope s_law_map_named) (by decide +kernel)) (fun _ _ _ _ _ => (show PG _ _ (gTup K 2 _) from pg_tup (by rfl) (pgs_cons (pg_name (i := 6) sc_law_map_named.nd rfl (Or.inl rfl)) (pgs_cons (pg_name (i := 7) sc_law_map_named.nd rfl (Or.inl rfl)) pgs_nil)))) (fun _ _ _ _ _ => pts_nil) (fun _ _ _ _ _ => (pe_tup (pa_cons (pe_ix (show IxR _ (rIxL K) from ix_list) (pv 4) (pv 6) (fun _ _ => rfl)) (pa_cons (pe_ix (show IxR _ (rIxL K) from ix_list) (pv 4) (pv 7) (fun _ _ => rfl)) pa_nil))))) pa_nil)) pa_nil)) pa_nil)))
      (pss_one (ps_ret (pe_lst (pa_cons (pe_tup (pa_cons (pv 1) (pa_cons (pv 5) (pa_cons (pe_callTy (show CallR _ _ (rTupleOf K) from call_tupleOf) (by rfl) T.tuple (by decide +kernel) (pa_cons (pe_callB (show CallR _ _ (rSortedSet w) from cr_sortedSet rfl) (by rfl) T.sorted (by decide +kernel) (pa_cons (pe_callTy (show CallR _ _ (rSetI K w) from cr_setI rfl) (by rfl) T.set (by decide +kernel) (pa_cons (pe_lc (own := [("a", 6)]) rfl sc_law_map_named.nd (show PI _ _ _ (iList K _) from pi_list (pv 3)) (blkOk_by (N := ["pool", "places", "roads", "wished", "names", "told", "a", "b"]) (sc := L2.defScope s_law_map_named) (by decide +kernel)) (fun _ _ _ _ _ => (pg_name (i := 6) sc_law_map_named.nd rfl (Or.inl rfl))) (fun _ _ _ _ _ => pts_nil) (fun _ _ _ _ _ => (pe_ix (show IxR _ (rIxL K) from ix_list) (pv 4) (pv 6) (fun _ _ => rfl)))) pa_nil)) pa_nil)) pa_nil)) pa_nil)))) (pa_cons (pv 4) pa_nil))))))), ?_⟩
    refine ⟨_, rfl, _, rfl, p, l, n, rfl, hP, by omega, fun na perm H1 pm hna hN hP1 k1 => ?_⟩
    have hRo1 := k1 _ _ oR hRo
    have hWi1 := k1 _ _ oW hWi
    have hPr1 : PairsAt K H1 ts prs := hPr.keep k1 hP.lists
    refine ⟨_, rfl, ro, rfl, ⟨_, .inl (.inl hRo1)⟩, fun d hd => ?_⟩
    have keep : ∀ {H' : Hp}, Kp [d] H1 H' → Same H1 H' := fun {H'} k b o e => k b o (fun m => by rw [List.mem_singleton.mp m, hd] at e; cases e) e
    refine lc_list (K := K) (xs := ts.map V.ref) (fun i H' => ∃ rows : List Row, rows.map (·.2) = (prs.take i).map (fun q => two (nm perm q.1, nm perm q.2)) ∧ Kp [d] H1 H' ∧ H' d = some (.lst (rows.map fun r => V.ref r.1)) ∧ ∀ r ∈ rows, H' r.1 = some (.tup (r.2.map V.int)))
      ⟨[], rfl, (fun b o x e => by rw [upd_ne (ne_of_none e hd)]; exact e), upd_same, fun r h => nomatch h⟩ (fun i H' _ ⟨_, _, k, _⟩ => .inl (.inl (keep k _ _ hRo1))) ?_ ?_
    · rintro i x H2 hx ⟨rows, e2, k2, hD, all⟩
      obtain ⟨t, ht, rfl⟩ := get_map hx
      obtain ⟨q0, hq0, pt⟩ := paired_getL hPr1 ht
      obtain ⟨b1, b2⟩ := inP q0 (List.mem_of_getElem? hq0)
      have hN2 := keep k2 _ _ hN
      have il : i < prs.length := (List.getElem?_eq_some_iff.mp hq0).1
      have el : rows.length = i := by
        have := congrArg List.length e2
        rw [List.length_map, List.length_map, List.length_take] at this
        omega
      refine ⟨t, _, rfl, Same.sqT (keep k2) pt, rfl, _, _, rfl, _, _, rfl, rfl, rfl, ?_⟩
      refine ⟨_, rfl, _, rfl, na, _, _, _, rfl, rfl, .inl (.inl hN2), nm_at pm b1, _, rfl, _, rfl, na, _, _, _, rfl, rfl, .inl (.inl hN2), nm_at pm b2, (by show 2 ≤ sizeLine; decide), fun e he => ?_⟩
      have nde : d ≠ e := ne_of_none hD he
      refine ⟨_, Eq.trans (upd_ne nde) hD, by rw [List.length_map, el]; exact small1000 (by omega), rows ++ [(e, two (nm perm q0.1, nm perm q0.2))], ?_, ?_, by rw [upd_same, List.map_append]; rfl, ?_⟩
      · rw [List.map_append, e2, take_more hq0, List.map_append]
        rfl
      · intro b o nb eb
        have := k2 b o nb eb
        rw [upd_ne (fun z => nb (by rw [z]; simp)), upd_ne (ne_of_none this he)]
        exact this
      · intro r hr'
        rcases List.mem_append.mp hr' with hr' | hr'
        · have := all r hr'
          have n1 : r.1 ≠ d := fun z => by rw [z, hD] at this; cases this
          rw [upd_ne n1, upd_ne (ne_of_none this he)]
          exact this
        · rw [List.mem_singleton.mp hr', upd_ne nde.symm, upd_same]
          rfl
    rintro H2 ⟨rows, e2, k2, hD, all⟩
    rw [List.take_of_length_le (by rw [List.length_map]; exact Nat.le_of_eq (Paired.length hPr1).symm)] at e2
    have elen : rows.length = prs.length := by
      have := congrArg List.length e2
      rw [List.length_map, List.length_map] at this
      exact this
    have shape : ∀ r ∈ rows, ∃ z, r.2 = two z := by
      intro r hr'
      have : r.2 ∈ rows.map (·.2) := List.mem_map.mpr ⟨r, hr', rfl⟩
      rw [e2] at this
      obtain ⟨z, _, ez⟩ := List.mem_map.mp this
      exact ⟨_, ez.symm⟩
    refine ⟨d, rows, rfl, .inl (.inl hD), (fun r hr' => .inl (.inl (all r hr'))), by omega, fun a L ha sub sup => ?_⟩
    have s3 : Same H2 (upd H2 a (SetTO P w a L)) := same_upd ha
    refine ⟨a, L, rfl, upd_same, (fun r hr' => Same.sqT s3 (.inl (.inl (all r (sub r hr'))))), (fun r hr' => by obtain ⟨z, ez⟩ := shape r (sub r hr'); rw [ez]; exact fun y => nomatch y), fun L' u pm' nd few pw hu' => ?_⟩
    have s4 : Same H2 (upd (upd H2 a (SetTO P w a L)) u (.lst (L'.map fun r => V.ref r.1))) := s3.trans (same_upd hu')
    refine ⟨u, _, rfl, .inl ⟨.inl (.inl upd_same), fun tp htp => ?_⟩⟩
    have s5 := s4.trans (same_upd (o := .tup (L'.map fun r => V.ref r.1)) htp)
    have hTp : (upd (upd (upd H2 a (SetTO P w a L)) u (.lst (L'.map fun r => V.ref r.1))) tp (.tup (L'.map fun r => V.ref r.1))) tp = some (.tup (L'.map fun r => V.ref r.1)) := upd_same
    generalize upd (upd (upd H2 a (SetTO P w a L)) u (.lst (L'.map fun r => V.ref r.1))) tp (.tup (L'.map fun r => V.ref r.1)) = H3 at s5 hTp
    have sub' : ∀ r ∈ L', r ∈ rows := fun r hr' => sub r (pm'.mem_iff.mp hr')
    obtain ⟨rds, erds⟩ := rows_two L' fun r hr' => shape r (sub' r hr')
    have upR : rds.Pairwise ltP := rows_up erds pw nd
    have hRd : PairsAt K H3 (L'.map (·.1)) rds := rows_pairs erds fun r hr' => .inl (.inl (s5 _ _ (all r (sub' r hr'))))
    have memR : ∀ x y, (x, y) ∈ rds ↔ ∃ a b, (a, b) ∈ prs ∧ x = nm perm a ∧ y = nm perm b := by
      intro x y
      have h1 : (x, y) ∈ rds ↔ two (x, y) ∈ rds.map two := by
        constructor
        · intro h
          exact List.mem_map.mpr ⟨_, h, rfl⟩
        · intro h
          obtain ⟨z, hz, ez⟩ := List.mem_map.mp h
          rw [← two_inj ez]
          exact hz
      rw [h1, ← erds]
      constructor
      · intro h
        obtain ⟨r, hr', er⟩ := List.mem_map.mp h
        have : r.2 ∈ rows.map (·.2) := List.mem_map.mpr ⟨r, sub' r hr', rfl⟩
        rw [e2, er] at this
        obtain ⟨⟨a', b'⟩, hab, ez⟩ := List.mem_map.mp this
        have := two_inj ez
        injection this with z1 z2
        exact ⟨a', b', hab, z1.symm, z2.symm⟩
      · rintro ⟨a', b', hab, rfl, rfl⟩
        have : two (nm perm a', nm perm b') ∈ rows.map (·.2) := by
          rw [e2]
          exact List.mem_map.mpr ⟨(a', b'), hab, rfl⟩
        obtain ⟨r, hr', er⟩ := List.mem_map.mp this
        have h2 := sup r hr'
        rw [er] at h2
        exact (pm'.map (·.2)).mem_iff.mpr h2
    have s13 : Same H1 H3 := (keep k2).trans s5
    have hN3 := s13 _ _ hN
    have hWi3 := s13 _ _ hWi1
    refine ⟨_, rfl, _, rfl, _, rfl, wi, rfl, ⟨_, .inl (.inl hWi3)⟩, fun d2 hd2 => ?_⟩
    have keep2 : ∀ {H' : Hp}, Kp [d2] H3 H' → Same H3 H' := fun {H'} k b o e => k b o (fun m => by rw [List.mem_singleton.mp m, hd2] at e; cases e) e
    refine lc_list (K := K) (xs := ws.map vN) (fun i H' => Kp [d2] H3 H' ∧ H' d2 = some (.lst (((ws.take i).map (nm perm)).map vN)))
      ⟨(fun b o x e => by rw [upd_ne (ne_of_none e hd2)]; exact e), upd_same⟩ (fun i H' _ ⟨k, _⟩ => .inl (.inl (keep2 k _ _ hWi3))) ?_ ?_
    · rintro i x H4 hx ⟨k4, hD4⟩
      obtain ⟨a', ha', rfl⟩ := get_map hx
      have il : i < ws.length := (List.getElem?_eq_some_iff.mp ha').1
      refine ⟨rfl, ?_⟩
      refine ⟨_, rfl, _, rfl, na, _, _, _, rfl, rfl, .inl (.inl (keep2 k4 _ _ hN3)), nm_at pm (inW a' (List.mem_of_getElem? ha')), _, hD4, ?_, ?_, ?_⟩
      · rw [List.length_map, List.length_map, List.length_take]
        exact small1000 (by omega)
      · intro b o nb eb
        rw [upd_ne (fun z => nb (by rw [z]; simp))]
        exact k4 b o nb eb
      · rw [upd_same, take_more ha', List.map_append, List.map_append]
        rfl
    rintro H4 ⟨k4, hD4⟩
    rw [List.take_of_length_le (by rw [List.length_map]; exact Nat.le_refl _)] at hD4
    refine ⟨d2, iN (ws.map (nm perm)), rfl, .inl (.inl (.inl (by rw [← vN_map]; exact hD4))), by rw [iN_length, List.length_map]; omega, fun p2 n2 hp2 hn2 => ?_⟩
    rw [iN_length, List.length_map] at hn2
    refine ⟨p2, _, n2, rfl, upd_same, by omega, fun ns u2 up2 mem2 _ hu2 => ?_⟩
    refine ⟨u2, _, rfl, .inl ⟨.inl (.inl upd_same), fun tw htw => ?_⟩⟩
    have s6 : Same H4 (upd (upd (upd H4 p2 (SetO w p2 (fun j => decide (j ∈ iN (ws.map (nm perm)))) n2)) u2 (.lst (ns.map V.int))) tw (.tup (ns.map V.int))) := ((same_upd hp2).trans (same_upd hu2)).trans (same_upd htw)
    have hTw : (upd (upd (upd H4 p2 (SetO w p2 (fun j => decide (j ∈ iN (ws.map (nm perm)))) n2)) u2 (.lst (ns.map V.int))) tw (.tup (ns.map V.int))) tw = some (.tup (ns.map V.int)) := upd_same
    generalize upd (upd (upd H4 p2 (SetO w p2 (fun j => decide (j ∈ iN (ws.map (nm perm)))) n2)) u2 (.lst (ns.map V.int))) tw (.tup (ns.map V.int)) = H5 at s6 hTw
    have s15 : Same H1 H5 := s13.trans ((keep2 k4).trans s6)
    have s35 : Same H3 H5 := (keep2 k4).trans s6
    obtain ⟨wl, ewl, memW⟩ : ∃ wl : List Nat, ns = iN wl ∧ ∀ x, x ∈ wl ↔ x ∈ ws.map (nm perm) := by
      have nn : ∀ y ∈ ns, 0 ≤ y := by
        intro y hy
        have := of_decide_eq_true ((mem2 y).mp hy)
        unfold iN at this
        obtain ⟨z, _, ez⟩ := List.mem_map.mp this
        omega
      refine ⟨ns.map Int.toNat, ?_, fun x => ?_⟩
      · unfold iN
        rw [List.map_map]
        conv => lhs; rw [← List.map_id ns]
        exact List.map_congr_left fun y hy => (Int.toNat_of_nonneg (nn y hy)).symm
      · constructor
        · intro h
          obtain ⟨y, hy, ey⟩ := List.mem_map.mp h
          have h2 := of_decide_eq_true ((mem2 y).mp hy)
          have h3 : y = (x : Int) := by
            have := nn y hy
            omega
          rw [h3] at h2
          exact iN_mem.mp h2
        · intro h
          exact List.mem_map.mpr ⟨(x : Int), (mem2 _).mpr (decide_eq_true (iN_mem.mpr h)), by omega⟩
    have upW : wl.Pairwise (· < ·) := by
      rw [ewl] at up2
      unfold iN at up2
      exact (List.pairwise_map.mp up2).imp fun h => by omega
    refine ⟨by show 3 ≤ sizeLine; decide, fun ct hct => ?_⟩
    have s7 : Same H5 (upd H5 ct (.tup [vN n, .ref tp, .ref tw])) := same_upd hct
    refine ⟨_, rfl, by show 2 ≤ sizeLine; decide, fun qa hqa => ?_⟩
    have s8 := s7.trans (same_upd (o := .lst [.ref ct, .ref na]) hqa)
    have s18 := s15.trans s8
    have len : perm.length = n := by rw [pm.length_eq, List.length_range]
    refine q qa ct na perm ⟨n, rds, wl⟩ _ pm ?_ hna upd_same ⟨tp, tw, L'.map (·.1), ?_, ?_, ?_, ?_⟩ (s18 _ _ hN) ⟨rfl, ⟨n60, ?_, ?_, upR, ?_, upW⟩, memR, ?_⟩ (hP1.same s18) ?_
    · have h1 := (s15.trans s7).free hqa
      cases eq : H qa with
      | none => rfl
      | some o =>
        have : qa ∉ [p, l] := by
          intro m
          obtain ⟨o', e', _⟩ := hP1.lists qa m
          rw [e'] at h1
          cases h1
        rw [k1 _ _ this eq] at h1
        cases h1
    · exact .inl (.inl (by rw [upd_ne (ne_of_none upd_same hqa)]; exact upd_same))
    · refine .inl (.inl ?_)
      have := s8 _ _ (s35 _ _ hTp)
      rw [List.map_map]
      exact this
    · exact hRd.keep (Same.kp (ex := []) (s35.trans s8)) (lists_nil _)
    · refine .inl (.inl ?_)
      have := s8 _ _ hTw
      rw [vN_map, ← ewl]
      exact this
    · show rds.length ≤ 240
      have e := congrArg List.length erds
      rw [List.length_map, List.length_map] at e
      omega
    · rintro ⟨x, y⟩ hxy
      obtain ⟨a', b', hab, e1, e3⟩ := (memR x y).mp hxy
      obtain ⟨b1, b2⟩ := inP _ hab
      rw [e1, e3]
      exact ⟨perm_lt pm b1, perm_lt pm b2⟩
    · intro x hx
      obtain ⟨a', ha', e1⟩ := List.mem_map.mp ((memW x).mp hx)
      rw [← e1]
      exact perm_lt pm (inW a' ha')
    · intro x
      rw [memW x, List.mem_map]
      exact ⟨fun ⟨a', h1, h2⟩ => ⟨a', h1, h2.symm⟩, fun ⟨a', h1, h2⟩ => ⟨a', h1, h2.symm⟩⟩
    · exact k1.trans (Same.kp s18)
end
end Ft

set_option Elab.async false
set_option linter.all false
set_option maxRecDepth 100000
set_option maxHeartbeats 8000000
namespace Ft
open PySem PySem.Spec PyProof.Rows L2
/-- ascending places below i -/
structure Upto (F : List Nat) (i : Nat) : Prop where
  up : F.Pairwise (· < ·)
  lt : ∀ a ∈ F, a < i
theorem Upto.nil (i : Nat) : Upto [] i := ⟨.nil, fun _ h => nomatch h⟩
theorem Upto.wider {F : List Nat} {i : Nat} (h : Upto F i) : Upto F (i + 1) := ⟨h.up, fun a m => Nat.lt_succ_of_lt (h.lt a m)⟩
theorem Upto.more {F : List Nat} {i : Nat} (h : Upto F i) : Upto (F ++ [i]) (i + 1) := by
  refine ⟨List.pairwise_append.mpr ⟨h.up, List.pairwise_singleton _ _, fun a ha b hb => ?_⟩, fun a m => ?_⟩
  · rw [List.mem_singleton.mp hb]
    exact h.lt a ha
  · rcases List.mem_append.mp m with m | m
    · exact Nat.lt_succ_of_lt (h.lt a m)
    · rw [List.mem_singleton.mp m]
      omega
theorem Upto.len {F : List Nat} {i : Nat} (h : Upto F i) : F.length ≤ i := up_len h.up h.lt
theorem upto_range (n : Nat) : Upto (List.range n) n := ⟨range_up n, fun _ h => List.mem_range.mp h⟩
theorem nodup_lt_len {l : List Nat} {n : Nat} (nd : l.Nodup) (b : ∀ a ∈ l, a < n) : l.length ≤ n := by
  have := nat_nodup_len l (List.range n) nd fun x hx => List.mem_range.mpr (b x hx)
  rwa [List.length_range] at this
/-! ### a list of pairs as data -/
def encP (p : Nat × Nat) : PyData := .tuple [.int (p.1 : Int), .int (p.2 : Int)]
theorem pairs_shaped (ps : List (Nat × Nat)) : SeqAt.shaped (.list (ps.map encP)) = true := by
  unfold SeqAt.shaped
  have h1 : PyData.canLayAll0 (ps.map encP) = true := by
    induction ps with
    | nil => simp [PyData.canLayAll0]
    | cons c cs ih => simp [PyData.canLayAll0, PyData.canLay0, encP, ih]
  have h2 : PyData.depthAll (ps.map encP) ≤ 1 := by
    induction ps with
    | nil => simp [PyData.depthAll]
    | cons c cs ih =>
      have ih' := ih (by
        have := h1
        simp [PyData.canLayAll0, PyData.canLay0, encP] at this
        exact this)
      simp [PyData.depthAll, PyData.depth, encP]
      omega
  simp [PyData.canLay0, h1, PyData.depth]
  omega
theorem dpAll_pairs {K : PySem.W.Frag} {H : Hp} : ∀ (L : List (Addr × (Nat × Nat))), (∀ r ∈ L, SqT K H r.1 [vN r.2.1, vN r.2.2]) → DpAll K H (L.map fun r => V.ref r.1) (L.map fun r => encP r.2)
  | [], _ => .nil
  | r :: L, h => .cons (.tup (h r List.mem_cons_self) (.cons (.int _) (.cons (.int _) .nil))) (dpAll_pairs L fun q hq => h q (List.mem_cons_of_mem _ hq))
theorem in_vN {x : Nat} {F : List Nat} : inV (vN x) (F.map vN) = decide (x ∈ F) := by
  rw [Bool.eq_iff_iff]
  unfold inV
  rw [List.any_map, List.any_eq_true, decide_eq_true_eq]
  constructor
  · rintro ⟨y, hy, e⟩
    have : (y : Int) = x := by simpa [eqV, vN] using e
    have : y = x := by omega
    exact this ▸ hy
  · intro h
    exact ⟨x, h, by simp [eqV, vN]⟩
theorem all_vN (F : List Nat) : (F.map vN).all flatV = true := by
  rw [List.all_map, List.all_eq_true]
  intro x _
  rfl
theorem PoolAt.set {H : Hp} {p l e : Addr} {o : HO} (n : e ∉ [p, l]) (h : PoolAt H p l) : PoolAt (upd H e o) p l := by
  obtain ⟨a, b, cs, h1, h2, h3⟩ := h
  exact ⟨a, b, cs, by rw [upd_ne (fun z => n (by simp [z]))]; exact h1, by rw [upd_ne (fun z => n (by simp [z]))]; exact h2, h3⟩
/-- what was made on the way does not count -/
theorem kp_made {p l e : Addr} {H H1 H2 : Hp} (k : Kp [p, l] H H1) (he : H1 e = none) (k2 : Kp [p, l, e] H1 H2) : Kp [p, l] H H2 := fun b o nb eb => by
  have e1 := k b o nb eb
  refine k2 b o (fun m => ?_) e1
  simp only [List.mem_cons, List.not_mem_nil, or_false] at m nb
  rcases m with m | m | m
  · exact nb (.inl m)
  · exact nb (.inr m)
  · rw [m, he] at e1
    cases e1
section
variable {P : Program} {w : World} {K : PySem.W.Frag} {mg : Str → Option Value} {base : Heap} {t1 t2 : Tok}
/-! ### _law_map_some_wished -/
def sp_law_map_some_wished (K : PySem.W.Frag) : Sp := fun vs H Q _ => ∃ (p l ro : Addr) (n : Nat) (ts : List Addr) (prs : List (Nat × Nat)), vs = [.ref p, vN n, .ref ro] ∧ PoolAt H p l ∧ n ≤ 60 ∧
  H ro = some (.lst (ts.map V.ref)) ∧ ro ∉ [p, l] ∧ PairsAt K H ts prs ∧ prs.length < 64 ∧
  ∀ (q : Addr) (ws : List Nat) (H' : Hp), ws.Nodup → (∀ a ∈ ws, a < n) → H q = none → H' q = some (.lst (ws.map vN)) → PoolAt H' p l → Kp [p, l] H H' → Q (.ref q) H'
theorem cal_law_map_some_wished (T : Txt mg) (D : Def K mg "_law_map_some_wished" s_law_map_some_wished) (c_law_draw : Cal P w K mg base 2 "_law_draw" sp_law_draw) : Cal P w K mg base 3 "_law_map_some_wished" (sp_law_map_some_wished K) := by
  refine cal_of D sc_law_map_some_wished (fun _ _ _ _ _ _ us hl => match us, hl with | [_, _, _], _ => rfl) (fun vs H Q E h => ?_) (fun f cdv A outer s H vs Q E hr h => ?_)
  · obtain ⟨p, l, ro, n, ts, prs, rfl, _⟩ := h
    rfl
  · obtain ⟨p, l, ro, n, ts, prs, rfl, hP, n60, hRo, oR, hPr, fewP, q⟩ := h
    have hU := hr.units
    refine ⟨_, (pss_cons (ps_asg (pe_tup (pa_cons (pe_c c_law_draw hr (by decide) (by rfl) (pa_cons (pv 0) (pa_cons pe_int pa_nil))) (pa_cons (pe_lc (own := [("a", 5)]) rfl sc_law_map_some_wished.nd (pi_range1 (by rfl) T.range (pa_cons (pv 1) pa_nil)) (blkOk_by (N := ["pool", "places", "roads", "way", "last", "a", "road"]) (sc := L2.defScope s_law_map_some_wished) (by decide +kernel)) (fun _ _ _ _ _ => (pg_name (i := 5) sc_law_map_some_wished.nd rfl (Or.inr rfl))) (fun _ _ _ _ _ => pts_one (pt_cmpR (show OpR _ _ (rEqD K) from op_eqD hU) (pe_lc (own := [("road", 6)]) rfl sc_law_map_some_wished.nd (show PI _ _ _ (iList K _) from pi_list (pv 2)) (blkIn (N := ["pool", "places", "roads", "way", "last", "a", "road"]) (sc := L2.defScope s_law_map_some_wished) rfl (by decide +kernel)) (fun _ _ _ _ _ => (pg_name (i := 6) sc_law_map_some_wished.nd rfl (Or.inl rfl))) (fun _ _ _ _ _ => pts_one (pt_cmpR op_eq (pe_ix (show IxR _ (rIxT K) from ix_tup) (pv 6) pe_int (fun _ _ => rfl)) (pv 5) (nomark _))) (fun _ _ _ _ _ => (pv 6))) (pe_lst pa_nil) (nomark _))) (fun _ _ _ _ _ => (pv 5))) pa_nil))) (show PG _ _ (gTup K 2 _) from pg_tup (by rfl) (pgs_cons (pg_name (i := 3) sc_law_map_some_wished.nd rfl (Or.inr rfl)) (pgs_cons (pg_name (i := 4) sc_law_map_some_wished.nd rfl (Or.inr rfl)) pgs_nil))))
      (pss_cons (ps_if (pt_cmpR op_lt (pv 3) pe_int (nomark _)) (pss_one (ps_ret (pe_op op_cat (pv 4) (pe_lc (own := [("a", 5)]) rfl sc_law_map_some_wished.nd (pi_range1 (by rfl) T.range (pa_cons (pv 1) pa_nil)) (blkOk_by (N := ["pool", "places", "roads", "way", "last", "a", "road"]) (sc := L2.defScope s_law_map_some_wished) (by decide +kernel)) (fun _ _ _ _ _ => (pg_name (i := 5) sc_law_map_some_wished.nd rfl (Or.inl rfl))) (fun _ _ _ _ _ => pts_one (PW.pt (pw_and (pt_cmpR (show OpR _ _ (rIn K true) from op_notIn_seq) (pv 5) (pv 4) (by rfl)) (pw_and (pt_cmpR op_gt (pv 3) pe_int (nomark _)) (pw_and1 (pt_cmpR op_eq (pe_c c_law_draw hr (by decide) (by rfl) (pa_cons (pv 0) (pa_cons pe_int pa_nil))) pe_int (nomark _))))))) (fun _ _ _ _ _ => (pv 5)))))) pss_nil)
      (pss_cons (ps_if (pt_cmpR op_lt (pv 3) pe_int (nomark _)) (pss_one (ps_ret (pe_lc (own := [("a", 5)]) rfl sc_law_map_some_wished.nd (pi_range1 (by rfl) T.range (pa_cons (pv 1) pa_nil)) (blkOk_by (N := ["pool", "places", "roads", "way", "last", "a", "road"]) (sc := L2.defScope s_law_map_some_wished) (by decide +kernel)) (fun _ _ _ _ _ => (pg_name (i := 5) sc_law_map_some_wished.nd rfl (Or.inl rfl))) (fun _ _ _ _ _ => pts_one (pt_cmpR op_eq (pe_c c_law_draw hr (by decide) (by rfl) (pa_cons (pv 0) (pa_cons (pe_op op_sub (pv 3) pe_int) pa_nil))) pe_int (nomark _))) (fun _ _ _ _ _ => (pv 5))))) pss_nil)
      (pss_one (ps_ret (pe_ifExp (pt_cmpR op_gt (pe_c c_law_draw hr (by decide) (by rfl) (pa_cons (pv 0) (pa_cons pe_int pa_nil))) pe_int (nomark _)) (pe_lst pa_nil) (pe_listRg rfl (by rfl) T.list (prg_1 (by rfl) T.range (pv 1))))))))), ?_⟩
    refine ⟨_, rfl, p, l, 8, rfl, hP, by decide, by decide, fun way H1 hway hP1 k1 => ?_⟩
    have hRo1 := k1 _ _ oR hRo
    have hPr1 : PairsAt K H1 ts prs := hPr.keep k1 hP.lists
    refine ⟨_, rfl, _, rfl, by omega, by omega, fun d hd => ?_⟩
    have keep : ∀ {H' : Hp}, Kp [d] H1 H' → Same H1 H' := fun {H'} k b o e => k b o (fun m => by rw [List.mem_singleton.mp m, hd] at e; cases e) e
    refine lc_range (lo := 0) (n := n) (fun i H' => ∃ F : List Nat, Kp [d] H1 H' ∧ H' d = some (.lst (F.map vN)) ∧ Upto F i)
      ⟨[], (fun b o x e => by rw [upd_ne (ne_of_none e hd)]; exact e), upd_same, Upto.nil 0⟩ ?_ ?_
    · rintro i H2 hi ⟨F, k2, hD, hF⟩
      have e0 : (0 : Int) + (i : Nat) = (i : Nat) := by omega
      refine ⟨rfl, ?_⟩
      rw [e0]
      refine ⟨_, rfl, ro, rfl, ⟨_, .inl (.inl (keep k2 _ _ hRo1))⟩, fun e he => ?_⟩
      have keep2 : ∀ {H' : Hp}, Kp [e] H2 H' → Same H2 H' := fun {H'} k b o e' => k b o (fun m => by rw [List.mem_singleton.mp m, he] at e'; cases e') e'
      refine lc_list (K := K) (xs := ts.map V.ref) (fun j H' => ∃ L : List (Addr × (Nat × Nat)), Kp [e] H2 H' ∧ H' e = some (.lst (L.map fun r => V.ref r.1)) ∧ L.length ≤ j ∧ ∀ r ∈ L, SqT K H2 r.1 [vN r.2.1, vN r.2.2])
        ⟨[], (fun b o x e' => by rw [upd_ne (ne_of_none e' he)]; exact e'), upd_same, Nat.le_refl _, fun _ h => nomatch h⟩ (fun j H' _ ⟨_, k, _⟩ => .inl (.inl (keep2 k _ _ (keep k2 _ _ hRo1)))) ?_ ?_
      · rintro j x H3 hx ⟨L, k3, hE, fl, all⟩
        obtain ⟨t, ht, rfl⟩ := get_map hx
        obtain ⟨q0, hq0, pt⟩ := paired_getL hPr1 ht
        have jl : j < prs.length := (List.getElem?_eq_some_iff.mp hq0).1
        have pt2 := Same.sqT (keep k2) pt
        have pt3 := Same.sqT (keep2 k3) pt2
        refine ⟨rfl, ?_⟩
        refine ⟨_, rfl, t, _, _, _, rfl, rfl, pt3, rfl, _, rfl, rfl, _, rfl, ite_any (fun _ => ?_) (fun _ => ?_)⟩
        · refine ⟨_, rfl, _, hE, by rw [List.length_map]; exact small1000 (by omega), L ++ [(t, q0)], ?_, by rw [upd_same, List.map_append]; rfl, by rw [List.length_append]; exact Nat.succ_le_succ fl, ?_⟩
          · intro b o nb eb
            rw [upd_ne (fun z => nb (by rw [z]; simp))]
            exact k3 b o nb eb
          · intro r hr'
            rcases List.mem_append.mp hr' with hr' | hr'
            · exact all r hr'
            · rw [List.mem_singleton.mp hr']
              exact pt2
        · exact ⟨L, k3, hE, by omega, all⟩
      · rintro H3 ⟨L, k3, hE, fl, all⟩
        refine ⟨Nat.zero_le _, fun g hg => ?_⟩
        have s4 : Same H3 (upd H3 g (.lst [])) := same_upd hg
        have hD3 := keep2 k3 _ _ hD
        have kd : Kp [d] H1 (upd H3 g (.lst [])) := fun b o nb eb => s4 _ _ (keep2 k3 _ _ (k2 b o nb eb))
        refine ⟨.list (L.map fun r => encP r.2), .list [], .lst (.inl (.inl (s4 _ _ hE))) (dpAll_pairs L fun r hr' => Same.sqT ((keep2 k3).trans s4) (all r hr')), .lst (.inl (.inl upd_same)) .nil, by have z := pairs_shaped (L.map (·.2)); rw [List.map_map] at z; exact z, rfl, _, rfl, ite_any (fun _ => ?_) (fun _ => ?_)⟩
        · refine ⟨_, rfl, _, s4 _ _ hD3, by rw [List.length_map]; exact small1000 (by have := hF.len; omega), F ++ [i], ?_, by rw [upd_same, List.map_append]; rfl, hF.more⟩
          intro b o nb eb
          rw [upd_ne (fun z => nb (by rw [z]; simp))]
          exact kd b o nb eb
        · exact ⟨F, kd, s4 _ _ hD3, hF.wider⟩
    rintro H2 ⟨F, k2, hD, hF⟩
    refine ⟨by show 2 ≤ sizeLine; decide, fun tp htp => ?_⟩
    have hD' : (upd H2 tp (.tup [vN way, .ref d])) d = some (.lst (F.map vN)) := (same_upd htp) _ _ hD
    refine ⟨tp, _, rfl, .inl (.inl upd_same), rfl, _, _, rfl, _, _, rfl, rfl, ?_⟩
    have s3 : Same H1 (upd H2 tp (.tup [vN way, .ref d])) := (keep k2).trans (same_upd htp)
    generalize upd H2 tp (.tup [vN way, .ref d]) = H3 at s3 hD'
    have hP3 := hP1.same s3
    have k3 : Kp [p, l] H H3 := k1.trans (Same.kp s3)
    have dpl : d ∉ [p, l] := hP1.free hd
    have hd0 : H d = none := kp_free k1 dpl hd
    refine ⟨_, rfl, _, _, rfl, rfl, _, rfl, ite_any (fun _ => ?_) (fun hw4 => ?_)⟩
    · refine ⟨_, rfl, _, rfl, _, rfl, by omega, by omega, fun e he => ?_⟩
      have hde : d ≠ e := ne_of_none hD' he
      have epl : e ∉ [p, l] := hP3.free he
      refine lc_range (lo := 0) (n := n) (fun i H' => ∃ G : List Nat, Kp [p, l, e] H3 H' ∧ H' e = some (.lst (G.map vN)) ∧ PoolAt H' p l ∧ Upto G i ∧ ∀ x ∈ G, x ∉ F)
        ⟨[], (fun b o x e' => by rw [upd_ne (ne_of_none e' he)]; exact e'), upd_same, hP3.same (same_upd he), Upto.nil 0, fun _ h => nomatch h⟩ ?_ ?_
      · rintro i H4 hi ⟨G, k4, hE, hP4, hG, off⟩
        have e0 : (0 : Int) + (i : Nat) = (i : Nat) := by omega
        have hD4 : H4 d = some (.lst (F.map vN)) := k4 _ _ (by simp only [List.mem_cons, List.not_mem_nil, or_false] at dpl ⊢; simp [dpl, hde]) hD'
        refine ⟨rfl, ?_⟩
        rw [e0]
        refine ⟨_, rfl, _, rfl, d, _, rfl, .inl (.inl (.inl hD4)), rfl, all_vN F, _, rfl, ite_any (fun hn => ?_) (fun _ => ?_)⟩
        · have hn' : i ∉ F := by
            have hn2 : (!inV (vN i) (F.map vN)) = true := hn
            rw [in_vN] at hn2
            simpa using hn2
          refine ⟨_, rfl, _, _, rfl, rfl, _, rfl, ite_any (fun _ => ?_) (fun _ => ?_)⟩
          · refine ⟨_, rfl, p, l, 6, rfl, hP4, by decide, by decide, fun r H5 hr5 hP5 k5 => ?_⟩
            have k45 : Kp [p, l, e] H3 H5 := fun b o nb eb => k5 _ _ (fun m => nb (by simp only [List.mem_cons, List.not_mem_nil, or_false] at m ⊢; rcases m with m | m <;> simp [m])) (k4 b o nb eb)
            have hE5 := k5 _ _ epl hE
            refine ⟨rfl, _, rfl, ite_any (fun _ => ?_) (fun _ => ?_)⟩
            · refine ⟨_, rfl, _, hE5, by rw [List.length_map]; exact small1000 (by have := hG.len; omega), G ++ [i], ?_, by rw [upd_same, List.map_append]; rfl, ?_, hG.more, ?_⟩
              · intro b o nb eb
                rw [upd_ne (fun z => nb (by rw [z]; simp))]
                exact k45 b o nb eb
              · exact hP5.set epl
              · intro x hx
                rcases List.mem_append.mp hx with hx | hx
                · exact off x hx
                · rw [List.mem_singleton.mp hx]
                  exact hn'
            · exact ⟨G, k45, hE5, hP5, hG.wider, off⟩
          · exact ⟨G, k4, hE, hP4, hG.wider, off⟩
        · exact ⟨G, k4, hE, hP4, hG.wider, off⟩
      · rintro H4 ⟨G, k4, hE, hP4, hG, off⟩
        have hD4 : H4 d = some (.lst (F.map vN)) := k4 _ _ (by simp only [List.mem_cons, List.not_mem_nil, or_false] at dpl ⊢; simp [dpl, hde]) hD'
        refine ⟨d, e, _, _, rfl, rfl, hD4, hE, ?_, fun z hz => ?_⟩
        · rw [List.length_map, List.length_map]
          have h1 := hF.len
          have h2 := hG.len
          show F.length + G.length ≤ sizeLine
          have h3 : (1000 : Nat) ≤ sizeLine := by decide
          omega
        · have s5 : Same H4 (upd H4 z (.lst (F.map vN ++ G.map vN))) := same_upd hz
          have k34 : Kp [p, l] H H4 := kp_made k3 he k4
          refine q z (F ++ G) _ ?_ ?_ (kp_free k34 (hP4.free hz) hz) (by rw [upd_same, List.map_append]) (hP4.same s5) (k34.trans (Same.kp s5))
          · rw [List.nodup_append]
            exact ⟨up_nodup hF.up, up_nodup hG.up, fun x hx y hy z => off y hy (z ▸ hx)⟩
          · intro x hx
            rcases List.mem_append.mp hx with hx | hx
            · exact hF.lt x hx
            · exact hG.lt x hx
    · have hw4' := of_decide_eq_false hw4
      refine ⟨_, rfl, _, _, rfl, rfl, _, rfl, ite_any (fun hw => ?_) (fun _ => ?_)⟩
      · refine ⟨_, rfl, _, rfl, by omega, by omega, fun e he => ?_⟩
        have epl : e ∉ [p, l] := hP3.free he
        refine lc_range (lo := 0) (n := n) (fun i H' => ∃ G : List Nat, Kp [p, l, e] H3 H' ∧ H' e = some (.lst (G.map vN)) ∧ PoolAt H' p l ∧ Upto G i)
          ⟨[], (fun b o x e' => by rw [upd_ne (ne_of_none e' he)]; exact e'), upd_same, hP3.same (same_upd he), Upto.nil 0⟩ ?_ ?_
        · rintro i H4 hi ⟨G, k4, hE, hP4, hG⟩
          have e0 : (0 : Int) + (i : Nat) = (i : Nat) := by omega
          refine ⟨rfl, ?_⟩
          rw [e0]
          refine ⟨_, rfl, _, rfl, _, _, rfl, rfl, p, l, way - 2, ?_, hP4, by omega, by omega, fun r H5 hr5 hP5 k5 => ?_⟩
          · have : ((way : Nat) : Int) - 2 = ((way - 2 : Nat) : Int) := by omega
            show [V.ref p, V.int ((way : Nat) - 2)] = [V.ref p, V.int ((way - 2 : Nat) : Int)]
            rw [this]
          have k45 : Kp [p, l, e] H3 H5 := fun b o nb eb => k5 _ _ (fun m => nb (by simp only [List.mem_cons, List.not_mem_nil, or_false] at m ⊢; rcases m with m | m <;> simp [m])) (k4 b o nb eb)
          have hE5 := k5 _ _ epl hE
          refine ⟨rfl, _, rfl, ite_any (fun _ => ?_) (fun _ => ?_)⟩
          · refine ⟨_, rfl, _, hE5, by rw [List.length_map]; exact small1000 (by have := hG.len; omega), G ++ [i], ?_, by rw [upd_same, List.map_append]; rfl, hP5.set epl, hG.more⟩
            intro b o nb eb
            rw [upd_ne (fun z => nb (by rw [z]; simp))]
            exact k45 b o nb eb
          · exact ⟨G, k45, hE5, hP5, hG.wider⟩
        · rintro H4 ⟨G, k4, hE, hP4, hG⟩
          have k34 : Kp [p, l] H H4 := kp_made k3 he k4
          exact q e G _ (up_nodup hG.up) hG.lt (kp_free k3 epl he) hE hP4 k34
      · refine ⟨_, rfl, p, l, 3, rfl, hP3, by decide, by decide, fun r H4 hr4 hP4 k4 => ?_⟩
        refine ⟨_, _, rfl, rfl, _, rfl, ite_any (fun _ => ?_) (fun _ => ?_)⟩
        · refine ⟨Nat.zero_le _, fun e he => ?_⟩
          have epl : e ∉ [p, l] := hP4.free he
          exact q e [] _ .nil (fun _ h => nomatch h) (kp_free (k3.trans k4) epl he) upd_same (hP4.set epl) ((k3.trans k4).trans (Same.kp (same_upd he)))
        · refine ⟨_, rfl, _, rfl, .of_le (by omega) (by omega) (by omega) (by omega), fun e he => ?_⟩
          have epl : e ∉ [p, l] := hP4.free he
          exact q e (List.range n) _ (up_nodup (range_up n)) (fun _ h => List.mem_range.mp h) (kp_free (k3.trans k4) epl he) (by rw [upd_same, rgV_nat]) (hP4.set epl) ((k3.trans k4).trans (Same.kp (same_upd he)))
end
end Ft

set_option Elab.async false
set_option linter.all false
set_option maxRecDepth 100000
set_option maxHeartbeats 8000000
namespace Ft
open PySem PySem.Spec PyProof.Rows L2
/-- pairs as fresh tuples -/
def TupsAt (H : Hp) (L : List (Addr × (Nat × Nat))) : Prop := ∀ r ∈ L, H r.1 = some (.tup [vN r.2.1, vN r.2.2])
theorem TupsAt.keep {ex : List Addr} {H H' : Hp} (k : Kp ex H H') (l : Lists ex H) {L : List (Addr × (Nat × Nat))} (h : TupsAt H L) : TupsAt H' L := fun r hr => by
  refine k _ _ (fun m => ?_) (h r hr)
  obtain ⟨o, e, n, _⟩ := l _ m
  rw [h r hr] at e
  exact n _ (Option.some.inj e).symm
theorem TupsAt.same {H H' : Hp} (k : Same H H') {L : List (Addr × (Nat × Nat))} (h : TupsAt H L) : TupsAt H' L := fun r hr => k _ _ (h r hr)
theorem TupsAt.set {H : Hp} {d : Addr} {xs : List V} {o : HO} (hd : H d = some (.lst xs)) {L : List (Addr × (Nat × Nat))} (h : TupsAt H L) : TupsAt (upd H d o) L := fun r hr => by
  have := h r hr
  rw [upd_ne (fun z => by rw [z, hd] at this; cases this)]
  exact this
theorem TupsAt.add {H : Hp} {t : Addr} {p : Nat × Nat} {L : List (Addr × (Nat × Nat))} (h : TupsAt H L) (ht : H t = some (.tup [vN p.1, vN p.2])) : TupsAt H (L ++ [(t, p)]) := fun r hr => by
  rcases List.mem_append.mp hr with hr | hr
  · exact h r hr
  · rw [List.mem_singleton.mp hr]
    exact ht
theorem TupsAt.pairs {K : PySem.W.Frag} {H : Hp} : ∀ {L : List (Addr × (Nat × Nat))}, TupsAt H L → PairsAt K H (L.map (·.1)) (L.map (·.2))
  | [], _ => .nil
  | r :: L, h => .cons (.inl (.inl (h r List.mem_cons_self))) (TupsAt.pairs fun q hq => h q (List.mem_cons_of_mem _ hq))
theorem TupsAt.not {H : Hp} {d : Addr} {xs : List V} (hd : H d = some (.lst xs)) {L : List (Addr × (Nat × Nat))} (h : TupsAt H L) : ∀ r ∈ L, r.1 ≠ d := fun r hr z => by
  have := h r hr
  rw [z, hd] at this
  cases this
theorem floor_nat (i z : Nat) : (i : Int) / (1 + (z : Int)) * (1 + (z : Int)) = ((i / (1 + z) * (1 + z) : Nat) : Int) := by
  push_cast
  rfl
section
variable {P : Program} {w : World} {K : PySem.W.Frag} {mg : Str → Option Value} {base : Heap} {t1 t2 : Tok}
/-! ### _law_map_drawn -/
def sp_law_map_drawn (K : PySem.W.Frag) : Sp := fun vs H Q _ => ∃ (p l : Addr) (most : Nat), vs = [.ref p, vN most] ∧ PoolAt H p l ∧ most ≤ 20 ∧ ∀ (c : Addr) (C : Chart) (H' : Hp), IsChart K H' c C → C.Ok → C.n ≤ most → PoolAt H' p l → Kp [p, l] H H' → Q (.ref c) H'
theorem cal_law_map_drawn (T : Txt mg) (D : Def K mg "_law_map_drawn" s_law_map_drawn) (c_law_draw : Cal P w K mg base 2 "_law_draw" sp_law_draw) (c_law_map_named : Cal P w K mg base 4 "_law_map_named" (sp_law_map_named K))
    (c_law_map_some_wished : Cal P w K mg base 3 "_law_map_some_wished" (sp_law_map_some_wished K)) : Cal P w K mg base 5 "_law_map_drawn" (sp_law_map_drawn K) := by
  refine cal_of D sc_law_map_drawn (fun _ _ _ _ _ _ us hl => match us, hl with | [_, _], _ => rfl) (fun vs H Q E h => ?_) (fun f cdv A outer s H vs Q E hr h => ?_)
  · obtain ⟨p, l, most, rfl, _⟩ := h
    rfl
  · obtain ⟨p, l, most, rfl, hP, m20, q⟩ := h
    have hU := hr.units
    refine ⟨_, (pss_cons (ps_set (i := 2) sc_law_map_drawn.nd rfl (Or.inr rfl) (pe_c c_law_draw hr (by decide) (by rfl) (pa_cons (pv 0) (pa_cons (pe_op op_add (pv 1) pe_int) pa_nil))))
      (pss_cons (ps_if (pt_cmpR op_eq (pv 2) pe_int (nomark _)) (pss_one (ps_ret (pe_tup (pa_cons pe_int (pa_cons (pe_tup pa_nil) (pa_cons (pe_tup pa_nil) pa_nil)))))) pss_nil)
      (pss_cons (ps_par (i := 3) (j := 4) (by rfl) sc_law_map_drawn.nd rfl rfl (by decide) rfl rfl (pa_cons (pe_c c_law_draw hr (by decide) (by rfl) (pa_cons (pv 0) (pa_cons pe_int pa_nil))) (pa_cons (pe_lst pa_nil) pa_nil)) (by rfl))
      (pss_cons (ps_for PassesOwn.never rfl (pi_range1 (by rfl) T.range (pa_cons (pe_c c_law_draw hr (by decide) (by rfl) (pa_cons (pv 0) (pa_cons (pe_op op_add (pe_op op_mul pe_int (pv 2)) pe_int) pa_nil))) pa_nil)) (pg_name (i := 5) sc_law_map_drawn.nd rfl (Or.inl rfl)) (pss_cons (ps_par (i := 6) (j := 7) (by rfl) sc_law_map_drawn.nd rfl rfl (by decide) rfl rfl (pa_cons (pe_c c_law_draw hr (by decide) (by rfl) (pa_cons (pv 0) (pa_cons (pv 2) pa_nil))) (pa_cons (pe_c c_law_draw hr (by decide) (by rfl) (pa_cons (pv 0) (pa_cons (pv 2) pa_nil))) pa_nil)) (by rfl))
        (pss_cons (ps_set (i := 8) sc_law_map_drawn.nd rfl (Or.inl rfl) (pe_mid (pe_or (pe_cmpR op_eq (pv 3) pe_int (nomark _)) (pe_one (pe_and (pe_cmpR op_gt (pv 3) pe_int (nomark _)) (pe_one (pe_cmpR op_gt (pe_c c_law_draw hr (by decide) (by rfl) (pa_cons (pv 0) (pa_cons pe_int pa_nil))) pe_int (nomark _))))))))
        (pss_one (ps_expr (pe_bm PySem.F.plainAttrs_list PySem.F.slot_list_append PySem.F.type_list_append mt_append (pv 4) (pa_cons (pe_mid (pe_ifExp (pt_truth (pv 8) (by intro _; rfl)) (pe_tup (pa_cons (pe_callB (call_min2 rfl) (by rfl) T.min (by decide +kernel) (pa_cons (pv 6) (pa_cons (pv 7) pa_nil))) (pa_cons (pe_callB (call_max2 rfl) (by rfl) T.max (by decide +kernel) (pa_cons (pv 6) (pa_cons (pv 7) pa_nil))) pa_nil))) (pe_tup (pa_cons (pv 6) (pa_cons (pv 7) pa_nil))))) pa_nil)))))))
      (ps_cut (ps_if (pt_cmpR op_eq (pv 3) pe_int (nomark _)) (pss_cons (ps_set (i := 9) sc_law_map_drawn.nd rfl (Or.inr rfl) (pe_op op_add pe_int (pe_c c_law_draw hr (by decide) (by rfl) (pa_cons (pv 0) (pa_cons pe_int pa_nil)))))
        (pss_one (ps_set (i := 4) sc_law_map_drawn.nd rfl (Or.inl rfl) (pe_op op_cat (pv 4) (pe_lc (own := [("a", 6)]) rfl sc_law_map_drawn.nd (pi_range1 (by rfl) T.range (pa_cons (pe_op op_sub (pv 2) pe_int) pa_nil)) (blkOk_by (N := ["pool", "most", "places", "way", "roads", "turn", "a", "b", "ahead", "size"]) (sc := L2.defScope s_law_map_drawn) (by decide +kernel)) (fun _ _ _ _ _ => (pg_name (i := 6) sc_law_map_drawn.nd rfl (Or.inl rfl))) (fun _ _ _ _ _ => pts_nil) (fun _ _ _ _ _ => (pe_tup (pa_cons (pv 6) (pa_cons (pe_mid (pe_ifExp (PW.pt (pw_and (pt_cmpR op_gt (pe_op op_mod (pe_callTy call_int1 (by rfl) T.int (by decide +kernel) (pa_cons (pe_op op_add (pv 6) pe_int) pa_nil)) (pv 9)) pe_int (nomark _)) (pw_and1 (pt_cmpR op_lt (pe_op op_add (pv 6) pe_int) (pv 2) (nomark _))))) (pe_op op_add (pv 6) pe_int) (pe_op op_mul (pe_op op_fdiv (pv 6) (pv 9)) (pv 9)))) pa_nil))))))))) pss_nil)
      (pss_one (ps_ret (pe_ix (show IxR _ (rIxL K) from ix_list) (pe_c c_law_map_named hr (by decide) (by rfl) (pa_cons (pv 0) (pa_cons (pv 2) (pa_cons (pv 4) (pa_cons (pe_c c_law_map_some_wished hr (by decide) (by rfl) (pa_cons (pv 0) (pa_cons (pv 2) (pa_cons (pv 4) pa_nil)))) pa_nil))))) pe_int (fun _ _ => rfl))))))))), ?_⟩
    refine ⟨_, rfl, _, rfl, _, _, rfl, rfl, p, l, most + 1, rfl, hP, by omega, by omega, fun n H1 hn hP1 k1 => ?_⟩
    refine ⟨_, rfl, rfl, _, rfl, ite_any (fun h0 => ?_) (fun h0 => ?_)⟩
    · have hn0 : n = 0 := by
        have := of_decide_eq_true h0
        unfold vN at this
        have := V.int.inj this
        omega
      refine ⟨Nat.zero_le _, fun r1 h1 => ?_⟩
      have s1 : Same H1 (upd H1 r1 (.tup [])) := same_upd h1
      have hT1 : (upd H1 r1 (.tup [])) r1 = some (.tup []) := upd_same
      generalize upd H1 r1 (.tup []) = H2 at s1 hT1
      refine ⟨Nat.zero_le _, fun r2 h2 => ?_⟩
      have s2 : Same H2 (upd H2 r2 (.tup [])) := same_upd h2
      have hT2 : (upd H2 r2 (.tup [])) r2 = some (.tup []) := upd_same
      generalize upd H2 r2 (.tup []) = H3 at s2 hT2
      refine ⟨by show 3 ≤ sizeLine; decide, fun c hc => ?_⟩
      have s3 : Same H3 (upd H3 c (.tup [.int 0, .ref r1, .ref r2])) := same_upd hc
      have s13 := (s1.trans s2).trans s3
      refine q c ⟨0, [], []⟩ _ ⟨r1, r2, [], .inl (.inl upd_same), .inl (.inl (s3 _ _ (s2 _ _ hT1))), .nil, .inl (.inl (s3 _ _ hT2))⟩ ⟨by decide, by decide, (fun _ h => nomatch h), .nil, (fun _ h => nomatch h), .nil⟩ (Nat.zero_le _) (hP1.same s13) (k1.trans (Same.kp s13))
    have hn0 : 0 < n := by
      have := of_decide_eq_false h0
      unfold vN at this
      rcases Nat.eq_zero_or_pos n with e | e
      · exact absurd (by rw [e]; rfl) this
      · exact e
    refine ⟨_, rfl, p, l, 4, rfl, hP1, by decide, by decide, fun way H2 hway hP2 k2 => ?_⟩
    refine ⟨Nat.zero_le _, fun d hd => ?_⟩
    have s3 : Same H2 (upd H2 d (.lst [])) := same_upd hd
    have hD3 : (upd H2 d (.lst [])) d = some (.lst []) := upd_same
    have dpl : d ∉ [p, l] := hP2.free hd
    have hP3 := hP2.same s3
    have k3 : Kp [p, l] H (upd H2 d (.lst [])) := (k1.trans k2).trans (Same.kp s3)
    have hd0 : H d = none := kp_free (k1.trans k2) dpl hd
    generalize upd H2 d (.lst []) = H3 at s3 hD3 hP3 k3
    refine ⟨_, _, rfl, ?_⟩
    refine ⟨_, rfl, _, rfl, _, _, rfl, rfl, .inl ⟨by decide, by decide⟩, _, _, rfl, rfl, p, l, 2 * n + 2, rfl, hP3, by omega, by omega, fun m H4 hm hP4 k4 => ?_⟩
    have hD4 := k4 _ _ dpl hD3
    have kset : ∀ {H' : Hp} {o : HO}, Kp [p, l] H H' → Kp [p, l] H (upd H' d o) := fun {H' o} k b x nb e => by
      rw [upd_ne (ne_of_none e hd0)]
      exact k b x nb e
    refine ⟨_, rfl, by omega, by omega, for_range (lo := 0) (n := m) (fun i σ H' => ∃ (L : List (Addr × (Nat × Nat))) (v5 v6 v7 v8 : Option V), σ = [some (.ref p), some (vN most), some (vN n), some (vN way), some (.ref d), v5, v6, v7, v8, none] ∧ PoolAt H' p l ∧ Kp [p, l] H H' ∧ H' d = some (.lst (L.map fun r => V.ref r.1)) ∧ TupsAt H' L ∧ (∀ r ∈ L, r.2.1 < n ∧ r.2.2 < n) ∧ L.length = i)
      ⟨[], _, _, _, _, rfl, hP4, k3.trans k4, hD4, (fun _ h => nomatch h), (fun _ h => nomatch h), rfl⟩ ?_ ?_⟩
    · rintro i σ H5 hi ⟨L, v5, v6, v7, v8, rfl, hP5, k5, hD5, hL5, inL, eL⟩
      refine ⟨_, rfl, _, rfl, p, l, n, rfl, hP5, by omega, by omega, fun a H6 ha hP6 k6 => ?_⟩
      refine ⟨_, rfl, _, rfl, p, l, n, rfl, hP6, by omega, by omega, fun b H7 hb hP7 k7 => ?_⟩
      refine ⟨_, _, rfl, ?_⟩
      have k67 := k6.trans k7
      have hD7 := k67 _ _ dpl hD5
      have hL7 : TupsAt H7 L := hL5.keep k67 hP5.lists
      refine ⟨fun v H' => ∃ c : Bool, v = .bl c ∧ PoolAt H' p l ∧ Kp [p, l] H7 H', ⟨_, rfl, rfl, _, rfl, ite_any (fun _ => ⟨_, rfl, hP7, Kp.refl _ _⟩) (fun _ => ⟨_, rfl, _, _, rfl, rfl, _, rfl, ite_any (fun _ => ?_) (fun _ => ⟨_, rfl, hP7, Kp.refl _ _⟩)⟩)⟩, ?_⟩
      · exact ⟨_, rfl, p, l, 5, rfl, hP7, by decide, by decide, fun r H8 hr8 hP8 k8 => ⟨_, _, rfl, rfl, _, rfl, hP8, k8⟩⟩
      rintro v H8 ⟨c, rfl, hP8, k8⟩
      have hD8 := k8 _ _ dpl hD7
      have hL8 : TupsAt H8 L := hL7.keep k8 hP7.lists
      refine ⟨_, rfl, .inl ⟨rfl, _, .inl (.inl hD8)⟩, ?_⟩
      refine ⟨fun v H' => ∃ (t : Addr) (x y : Nat), v = .ref t ∧ H8 t = none ∧ H' = upd H8 t (.tup [vN x, vN y]) ∧ x < n ∧ y < n, ⟨_, rfl, _, rfl, ite_any (fun _ => ?_) (fun _ => ?_)⟩, ?_⟩
      · refine ⟨_, rfl, _, rfl, _, _, rfl, _, rfl, _, rfl, _, _, rfl, by show 2 ≤ sizeLine; decide, fun t ht => ?_⟩
        have e1 : V.int (if (b : Int) < (a : Int) then (b : Int) else (a : Int)) = vN (if b < a then b else a) := by
          by_cases h : b < a
          · rw [if_pos h, if_pos (by omega)]
            rfl
          · rw [if_neg h, if_neg (by omega)]
            rfl
        have e2 : V.int (if (a : Int) < (b : Int) then (b : Int) else (a : Int)) = vN (if a < b then b else a) := by
          by_cases h : a < b
          · rw [if_pos h, if_pos (by omega)]
            rfl
          · rw [if_neg h, if_neg (by omega)]
            rfl
        refine ⟨t, (if b < a then b else a), (if a < b then b else a), rfl, ht, by rw [← e1, ← e2], ?_, ?_⟩
        · by_cases h : b < a
          · rw [if_pos h]; exact hb
          · rw [if_neg h]; exact ha
        · by_cases h : a < b
          · rw [if_pos h]; exact hb
          · rw [if_neg h]; exact ha
      · exact ⟨_, rfl, _, rfl, by show 2 ≤ sizeLine; decide, fun t ht => ⟨t, a, b, rfl, ht, rfl, ha, hb⟩⟩
      rintro v H9 ⟨t, x, y, rfl, ht, rfl, hx, hy⟩
      have s9 : Same H8 (upd H8 t (.tup [vN x, vN y])) := same_upd ht
      have hT9 : (upd H8 t (.tup [vN x, vN y])) t = some (.tup [vN x, vN y]) := upd_same
      have hD9 := s9 _ _ hD8
      refine ⟨d, _, _, rfl, rfl, hD9, by rw [List.length_map]; exact small1000 (by omega), L ++ [(t, (x, y))], _, _, _, _, rfl, (hP8.same s9).set dpl, kset ((k5.trans (k67.trans k8)).trans (Same.kp s9)), by rw [upd_same, List.map_append]; rfl, ((hL8.same s9).add hT9).set hD9, ?_, by rw [List.length_append, eL]; rfl⟩
      intro r hr'
      rcases List.mem_append.mp hr' with hr' | hr'
      · exact inL r hr'
      · rw [List.mem_singleton.mp hr']
        exact ⟨hx, hy⟩
    rintro σ H5 ⟨L, v5, v6, v7, v8, rfl, hP5, k5, hD5, hL5, inL, eL⟩
    refine ⟨fun σ' H' => ∃ (ro : Addr) (L' : List (Addr × (Nat × Nat))) (v5 v6 v7 v8 v9 : Option V), σ' = [some (.ref p), some (vN most), some (vN n), some (vN way), some (.ref ro), v5, v6, v7, v8, v9] ∧ PoolAt H' p l ∧ Kp [p, l] H H' ∧ ro ∉ [p, l] ∧ H' ro = some (.lst (L'.map fun r => V.ref r.1)) ∧ TupsAt H' L' ∧ (∀ r ∈ L', r.2.1 < n ∧ r.2.2 < n) ∧ L'.length < 64, ?_, ?_⟩
    · refine ⟨_, rfl, rfl, _, rfl, ite_any (fun _ => ?_) (fun _ => ?_)⟩
      · refine ⟨_, rfl, p, l, 3, rfl, hP5, by decide, by decide, fun z H6 hz hP6 k6 => ?_⟩
        have hD6 := k6 _ _ dpl hD5
        have hL6 : TupsAt H6 L := hL5.keep k6 hP5.lists
        refine ⟨_, _, rfl, rfl, ?_⟩
        refine ⟨_, rfl, _, rfl, _, _, rfl, rfl, _, rfl, by omega, by omega, fun e he => ?_⟩
        have epl : e ∉ [p, l] := hP6.free he
        have hde : d ≠ e := ne_of_none hD6 he
        refine lc_range (lo := 0) (n := ((n : Int) - 1).toNat) (fun i H' => ∃ M : List (Addr × (Nat × Nat)), Kp [e] H6 H' ∧ H' e = some (.lst (M.map fun r => V.ref r.1)) ∧ TupsAt H' M ∧ (∀ r ∈ M, r.2.1 < n ∧ r.2.2 < n) ∧ M.length ≤ i)
          ⟨[], (fun b o x e' => by rw [upd_ne (ne_of_none e' he)]; exact e'), upd_same, (fun _ h => nomatch h), (fun _ h => nomatch h), Nat.zero_le _⟩ ?_ ?_
        · rintro i H7 hi ⟨M, k7, hE, hM, inM, eM⟩
          have e0 : (0 : Int) + (i : Nat) = (i : Nat) := by omega
          refine ⟨rfl, ?_⟩
          rw [e0]
          refine ⟨_, rfl, fun v H' => ∃ x : Nat, x < n ∧ v = vN x ∧ H' = H7, ?_, ?_⟩
          · have fl : ∃ x : Nat, x < n ∧ V.int ((i : Int) / (1 + (z : Int)) * (1 + (z : Int))) = vN x ∧ H7 = H7 := by
              refine ⟨i / (1 + z) * (1 + z), ?_, congrArg V.int (floor_nat i z), rfl⟩
              have := Nat.div_mul_le_self i (1 + z)
              omega
            have z1 : (0 : Int) < 1 + (z : Int) := by omega
            have z2 : (1 : Int) + (z : Int) < 1073741824 := by omega
            have z3 : -2 ^ 64 < (1 : Int) + (z : Int) := by omega
            have z4 : (1 : Int) + (z : Int) < 2 ^ 64 := by omega
            refine ⟨_, rfl, _, _, rfl, rfl, .inl ⟨_, rfl, _, rfl, _, _, rfl, rfl, z1, _, _, rfl, rfl, _, rfl, ite_any (fun _ => ?_) (fun _ => ?_)⟩⟩
            · refine ⟨_, rfl, _, _, rfl, rfl, _, rfl, _, _, rfl, rfl, _, rfl, ite_any (fun hx => ?_) (fun _ => ?_)⟩
              · have hx' := of_decide_eq_true hx
                exact ⟨_, rfl, _, _, rfl, rfl, i + 1, by omega, rfl, rfl⟩
              · exact ⟨_, rfl, _, rfl, _, _, rfl, rfl, ⟨z1, z2⟩, _, rfl, _, _, rfl, rfl, .inr ⟨z3, z4⟩, fl⟩
            · exact ⟨_, rfl, _, rfl, _, _, rfl, rfl, ⟨z1, z2⟩, _, rfl, _, _, rfl, rfl, .inr ⟨z3, z4⟩, fl⟩
          rintro v H8 ⟨x, hx, rfl, rfl⟩
          refine ⟨by show 2 ≤ sizeLine; decide, fun t ht => ?_⟩
          have s9 : Same H8 (upd H8 t (.tup [vN i, vN x])) := same_upd ht
          have hT9 : (upd H8 t (.tup [vN i, vN x])) t = some (.tup [vN i, vN x]) := upd_same
          have hE9 := s9 _ _ hE
          refine ⟨_, hE9, by rw [List.length_map]; exact small1000 (by omega), M ++ [(t, (i, x))], ?_, by rw [upd_same, List.map_append]; rfl, ((hM.same s9).add hT9).set hE9, ?_, by rw [List.length_append]; exact Nat.succ_le_succ eM⟩
          · intro b o nb eb
            rw [upd_ne (fun z => nb (by rw [z]; simp))]
            exact s9 _ _ (k7 b o nb eb)
          · intro r hr'
            rcases List.mem_append.mp hr' with hr' | hr'
            · exact inM r hr'
            · rw [List.mem_singleton.mp hr']
              exact ⟨by show i < n; omega, hx⟩
        · rintro H7 ⟨M, k7, hE, hM, inM, eM⟩
          have s7 : Same H6 H7 := fun b o eb => k7 b o (fun m => by rw [List.mem_singleton.mp m, he] at eb; cases eb) eb
          have hP7 := hP6.same s7
          refine ⟨d, e, _, _, rfl, rfl, s7 _ _ hD6, hE, ?_, fun ro hro => ?_⟩
          · rw [List.length_map, List.length_map]
            have h3 : (1000 : Nat) ≤ sizeLine := by decide
            omega
          · have s8 : Same H7 (upd H7 ro (.lst ((L.map fun r => V.ref r.1) ++ M.map fun r => V.ref r.1))) := same_upd hro
            refine ⟨ro, L ++ M, _, _, _, _, _, rfl, hP7.same s8, (k5.trans k6).trans (Same.kp (s7.trans s8)), hP7.free hro, by rw [upd_same, List.map_append], ?_, ?_, by rw [List.length_append]; omega⟩
            · intro r hr'
              rcases List.mem_append.mp hr' with hr' | hr'
              · exact (hL6.same (s7.trans s8)) r hr'
              · exact (hM.same s8) r hr'
            · intro r hr'
              rcases List.mem_append.mp hr' with hr' | hr'
              · exact inL r hr'
              · exact inM r hr'
      · exact ⟨d, L, _, _, _, _, _, rfl, hP5, k5, dpl, hD5, hL5, inL, by omega⟩
    · rintro σ' H6 ⟨ro, L', v5, v6, v7, v8, v9, rfl, hP6, k6, rpl, hRo, hL', inL', few⟩
      have ePr : (L'.map fun r => V.ref r.1) = (L'.map (·.1)).map V.ref := by rw [List.map_map]; rfl
      rw [ePr] at hRo
      have len : (L'.map (·.2)).length < 64 := by rw [List.length_map]; exact few
      refine ⟨_, rfl, _, rfl, _, rfl, _, rfl, _, rfl, _, rfl, p, l, ro, n, L'.map (·.1), L'.map (·.2), rfl, hP6, by omega, hRo, rpl, hL'.pairs, len, fun wi ws H7 nd ltw hw0 hW hP7 k7 => ?_⟩
      have hRo7 := k7 _ _ rpl hRo
      refine ⟨p, l, ro, wi, n, L'.map (·.1), L'.map (·.2), ws, rfl, hP7, by omega, hRo7, rpl, hL'.pairs.keep k7 hP6.lists, len, ?_, hW, hP6.free hw0, ?_, ltw, fun q' c na perm C H8 pm _ _ hQ hC _ nmd hP8 k8 => ?_⟩
      · intro r hr'
        obtain ⟨z, hz, rfl⟩ := List.mem_map.mp hr'
        exact inL' z hz
      · have := nodup_lt_len nd ltw
        omega
      · refine ⟨q', _, _, _, rfl, rfl, .inl (.inl hQ), rfl, ?_⟩
        exact q c C H8 hC nmd.ok (by rw [nmd.n]; omega) hP8 ((k6.trans k7).trans k8)
end
end Ft

set_option Elab.async false
set_option linter.all false
set_option maxRecDepth 100000
set_option maxHeartbeats 4000000
/-! x in t, t a set of tuples of ints -/
namespace Ft
open PySem PySem.Spec PyProof.Rows L2
/-- where the search for the hash g stands at its c-th step -/
def prb (m : Nat) (g : Int) (c : Nat) : SetTable.Probe := nth m (runAt m (SetTable.bits g % (m + 1)) (SetTable.bits g)) c
theorem no_dummy (m : Nat) : ∀ (c : Nat) (p : SetTable.Probe), p.dummy = none → (nth m p c).dummy = none
  | 0, _, h => h
  | c + 1, p, h => no_dummy m c (adv m p) (by unfold adv; split <;> exact h)
theorem prb_add {m : Nat} {g : Int} (c q : Nat) : nth m (prb m g c) q = prb m g (c + q) := (nth_add m c _ q).symm
section
variable {P : Program} {w : World} {A : Around} {E : Value → Shared → Prop} {s : Shared} {a : Addr} {L : List (Addr × List Int)} {es : Array (Int × Value)} {ep : Nat} {t : SetTable}
theorem look_from (R : SetTR P w s.heap a L es ep t) {x : Addr} {k : List Int} (hx : IsT P w s.heap k x) (room : A.units < cLine) {g : Int} (eg : thash P w k = g) {K : Nat} (few : K < 10 * SetTable.turns t.mask)
    (gap : way t.mask g K ∉ t.place.toList) (full : ∀ c, c < K → way t.mask g c ∈ t.place.toList) {Q : SetFound → Shared → Prop} (yes : ∀ i, k ∈ L.map (·.2) → Q (.there (some i)) s) (no : ∀ j, k ∉ L.map (·.2) → Q (.free j false) s) :
    ∀ (f c : Nat) (now : Option SetTable.Probe), now.getD (t.probeStart g) = prb t.mask g c → c ≤ K → K < c + f →
      (∀ (i : Nat) q, L[i]? = some q → q.2 = k → ∃ d, c ≤ d ∧ d < K ∧ t.place.toList[i]? = some (way t.mask g d)) → wpAny (model P w) A (setSearchFrom a (.ref x) g false f now) Q E s
  | 0, c, _, _, h1, h2, _ => absurd h2 (by omega)
  | f + 1, c, now, e0, h1, h2, ahead => by
    obtain ⟨ob, gob, _, dat⟩ := R.ob
    rw [setSearchFrom_succ]
    refine wpAny_bind (wpAny_setState_of gob dat R.fits ?_)
    dsimp only
    rw [if_neg R.gw]
    try refine wpAny_bind (wpAny_pure ?_)
    have hashes : ∀ (i : Nat) q, L[i]? = some q → (es[i]?.map (·.1)).getD 0 = thash P w q.2 := fun i q hq => by rw [R.entry hq]; rfl
    have places : ∀ q, (nth t.mask (prb t.mask g c) q).j = way t.mask g (c + q) := fun q => congrArg SetTable.Probe.j (prb_add c q)
    rcases go_spec t R.tab.ris R.tab.dm (fun i => (es[i]?.map (·.1)).getD 0) g (10 * SetTable.turns t.mask) (K - c) (prb t.mask g c) (no_dummy _ c _ rfl) (by omega) (fun q hq => by rw [places]; exact full _ (by omega))
      (by rw [places, Nat.add_sub_cancel' h1]; exact gap) with ⟨q, i, lq, pi, _, before, told⟩ | ⟨before, told⟩
    · have told' : t.probe (fun i => (es[i]?.map (·.1)).getD 0) g (now.getD (t.probeStart g)) = some (.candidate (way t.mask g (c + q)) i (prb t.mask g (c + (q + 1)))) := by
        rw [e0, ← places, ← prb_add]
        exact told
      rw [told']
      dsimp only
      rw [places] at pi
      have inL : i < L.length := by
        have u1 := (List.getElem?_eq_some_iff.mp pi).1
        have u2 := R.tab.sz
        rw [List.length_map] at u2
        rw [Array.length_toList] at u1
        omega
      obtain ⟨r, hr⟩ : ∃ r, L[i]? = some r := ⟨_, List.getElem?_eq_getElem inL⟩
      have mr := List.mem_of_getElem? hr
      have slot := slot_live R.tab.ris pi
      have after : wpAny (model P w) A (searchRest a (.ref x) g false f es t (way t.mask g (c + q)) i (prb t.mask g (c + (q + 1)))) Q E s := by
        unfold searchRest
        rw [R.entry hr]
        refine wpAny_bind (wpAny_holding (wpAny_eqBool_tuple room (R.tup r mr) hx ?_))
        refine wpAny_bind (wpAny_setState_of gob dat R.fits ?_)
        simp only [Bool.false_and, Bool.false_eq_true, if_false]
        try refine wpAny_bind (wpAny_pure ?_)
        rw [sameMem]
        simp only [if_true, slot, R.entry hr]
        refine wpAny_bind (wpAny_isSame_ref_self (wpAny_bind (wpAny_pure ?_)))
        simp only [if_true]
        by_cases same : r.2 = k
        · rw [if_pos (decide_eq_true same)]
          exact wpAny_pure (yes i (List.mem_map.mpr ⟨r, mr, same⟩))
        · rw [if_neg (by simp [same])]
          refine look_from R hx room eg few gap full yes no f (c + (q + 1)) _ rfl (by omega) (by omega) fun i' q' hq' ek => ?_
          obtain ⟨d, d1, d2, d3⟩ := ahead i' q' hq' ek
          refine ⟨d, ?_, d2, d3⟩
          rcases Nat.lt_trichotomy d (c + q) with lt | e | gt
          · exact absurd ((hashes i' q' hq').trans ((congrArg (thash P w) ek).trans eg)) (before (d - c) i' (by omega) (by rw [places, Nat.add_sub_cancel' d1]; exact d3))
          · rw [e] at d3
            have two := slot_live R.tab.ris d3
            rw [slot] at two
            injection two with two
            rw [← two, hr] at hq'
            exact absurd ((congrArg Prod.snd (Option.some.inj hq')).trans ek) same
          · omega
      by_cases led : t.led = true
      · rw [if_neg (by simp [led])]
        try refine wpAny_bind (wpAny_pure ?_)
        exact after
      · rw [if_pos (by simp [led])]
        refine wpAny_bind (seen_tup hx (fun y hy => ?_) ?_)
        · obtain ⟨en, hen, rfl⟩ := List.mem_map.mp hy
          have inE : en ∈ es.toList := by
            have : en ∈ es ∧ en.1 = g := by simpa using hen
            simpa using this.1
          rw [R.rows] at inE
          obtain ⟨q2, hq2, rfl⟩ := List.mem_map.mp inE
          exact ⟨q2.2, q2.1, rfl, R.tup q2 hq2⟩
        · rw [if_neg (by decide)]
          try refine wpAny_bind (wpAny_pure ?_)
          exact after
    · have told' : t.probe (fun i => (es[i]?.map (·.1)).getD 0) g (now.getD (t.probeStart g)) = some (.empty (way t.mask g K) none) := by
        have eK : way t.mask g K = (nth t.mask (prb t.mask g c) (K - c)).j := by rw [places, Nat.add_sub_cancel' h1]
        rw [e0, eK]
        exact told
      rw [told']
      refine wpAny_pure (no _ fun hk => ?_)
      obtain ⟨q', mq, ek⟩ := List.mem_map.mp hk
      obtain ⟨i', hq'⟩ := List.getElem?_of_mem mq
      obtain ⟨d, d1, d2, d3⟩ := ahead i' q' hq' ek
      exact before (d - c) i' (by omega) (by rw [places, Nat.add_sub_cancel' d1]; exact d3) ((hashes i' q' hq').trans ((congrArg (thash P w) ek).trans eg))
theorem look_at (R : SetTR P w s.heap a L es ep t) {x : Addr} {k : List Int} (hx : IsT P w s.heap k x) (room : A.units < cLine) {Q : SetFound → Shared → Prop} (yes : ∀ i, k ∈ L.map (·.2) → Q (.there (some i)) s) (no : ∀ j, k ∉ L.map (·.2) → Q (.free j false) s) :
    wpAny (model P w) A (setSearch a (.ref x) (thash P w k)) Q E s := by
  have rm := R.room
  obtain ⟨K, few, gap, full⟩ := R.tab.first (by rw [List.length_map]; omega) (thash P w k)
  have turns : 10 * SetTable.turns t.mask ≤ 1420 := by
    unfold SetTable.turns
    rcases R.tab.mok with e | e | e <;> rw [e] <;> decide
  unfold setSearch
  refine look_from R hx room rfl few gap full yes no 100000 0 none rfl (Nat.zero_le _) (by omega) fun i q hq ek => ?_
  have sz := R.tab.sz
  rw [List.length_map] at sz
  have inL := (List.getElem?_eq_some_iff.mp hq).1
  obtain ⟨j, hj⟩ : ∃ j, t.place.toList[i]? = some j := ⟨_, List.getElem?_eq_getElem (by rw [Array.length_toList]; omega)⟩
  obtain ⟨d, hd, e⟩ := R.tab.before gap (by rw [List.getElem?_map, hq, ← ek]; rfl) hj
  exact ⟨d, Nat.zero_le _, hd, by rw [hj, e]⟩
theorem find_at (R : SetTR P w s.heap a L es ep t) {x : Addr} {k : List Int} (hx : IsT P w s.heap k x) (room : A.units < cLine) {Q : Option Nat → Shared → Prop} (h : ∀ r : Option Nat, r.isSome = decide (k ∈ L.map (·.2)) → Q r s) :
    wpAny (model P w) A (setFind a (.ref x) (thash P w k)) Q E s := by
  obtain ⟨ob, gob, _, dat⟩ := R.ob
  show wpAny _ _ (setFindIn a (.ref x) (thash P w k) (99999 + 1)) Q E s
  unfold setFindIn
  refine wpAny_bind (wpAny_setState_of gob dat R.fits ?_)
  dsimp only
  rw [if_neg (by simp [byScan, Value.scannable])]
  try refine wpAny_bind (wpAny_pure ?_)
  refine wpAny_bind (look_at R hx room (fun i m => ?_) fun j m => ?_)
  · exact wpAny_pure (h _ (by rw [decide_eq_true m]; rfl))
  · exact wpAny_pure (h _ (by rw [decide_eq_false m]; rfl))
theorem has_at (R : SetTR P w s.heap a L es ep t) {x : Addr} {k : List Int} (hx : IsT P w s.heap k x) (room : A.units + 64 < cLine) {Q : Bool → Shared → Prop} (h : ∀ tk, Q (decide (k ∈ L.map (·.2))) { s with toks := tk }) :
    wpAny (model P w) A (contains (.ref a) (.ref x)) Q E s := by
  have isSet : s.TypeIs (.ref a) "set" := by
    obtain ⟨ob, gob, ex, _⟩ := R.ob
    exact ⟨ob, gob, ex.1⟩
  have in1 : A.in1.units < cLine := by
    have e : A.in1.units ≤ A.units + 1 := by simp only [Around.in1_units]; omega
    omega
  have ne : ¬ ((some (Value.builtin "set.__contains__") == some Value.none) = true) := by rw [beq_builtin_none]; simp
  unfold contains; try with_reducible refine wpAny_holding ?_
  refine wpAny_bind (wpAny_specialOf isSet F.slot_set_contains.lookup ?_); refine wp_if_neg ne ?_
  refine wpAny_bind (wpAny_callSpecialUnlessNone?_slot (name := Str.ofString "__contains__") isSet F.slot_set_contains (wpAny_call_entry F.slot_set_contains isSet entry_set_contains ?_ (F.args_set_contains_2 _ _)))
  unfold Builtin.«frozenset.__contains__» Builtin.Frozenset.oneOther Builtin.Frozenset.addrOf Builtin.Frozenset.withSetAsKey setContains
  simp only [bind_assoc, List.isEmpty_nil]
  refine wpAny_bind (wpAny_pure ?_); try dsimp only
  refine wpAny_bind (wpAny_pure ?_); try dsimp only
  refine wpAny_bind (wpAny_tryCatch (wpAny_holding ?_))
  refine wpAny_bind (wpAny_pyHash_tuple in1 hx ?_)
  refine wpAny_bind (find_at (s := { s with toks := s.toks + (k.length + 1) }) R hx in1 fun r er => ?_)
  refine wpAny_pure ?_
  show wpAny _ _ (ret (Value.bool r.isSome)) _ _ _
  rw [er]
  exact wpAny_pure ⟨_, rfl, wpAny_truthy_bool (h _)⟩
end
/-- the rows of a set of tuples, all of them tuples still -/
def rTIn (K : PySem.W.Frag) (P : Program) (w : World) (neg : Bool) : R2 := fun x y H Q => ∃ (b a : Addr) (k : List Int) (L : List (Addr × List Int)), x = .ref b ∧ y = .ref a ∧ SqT K H b (k.map V.int) ∧ H a = some (SetTO P w a L) ∧ (∀ p ∈ L, SqT K H p.1 (p.2.map V.int)) ∧ Q (.bl (xor neg (decide (k ∈ L.map (·.2))))) H
theorem setT_get {X : Cx} {pins : List (Addr × Obj)} {σ : L2.St} {H : Hp} {s : Shared} {a : Addr} {L : List (Addr × List Int)} (I : Inv X pins σ H s) (h : H a = some (SetTO X.prog X.w a L)) (all : ∀ p ∈ L, SqT X.K H p.1 (p.2.map V.int)) : ∃ es ep t, SetTR X.prog X.w s.heap a L es ep t := by
  have o : ObjOk X.prog X.w H s.heap a (SetTO X.prog X.w a L) := I.hok a _ h
  exact SetT0.full o.1 fun p hp => I.isT (all p hp)
theorem or_tin {X : Cx} (room : X.A.units + 64 < cLine) : OpR X (compareOp .In) (rTIn X.K X.prog X.w false) := by
  intro pins s σ H x y v u Q I rx ry h
  obtain ⟨b, a, k, L, rfl, rfl, hb, ha, all, q⟩ := h
  cases rx; cases ry
  obtain ⟨es, ep, t, R⟩ := setT_get I ha all
  show wpAny _ _ (do return Value.bool (← contains (.ref a) (.ref b))) _ _ s
  refine wpAny_bind (has_at R (I.isT hb) room fun tk => wpAny_pure ⟨V.bl (decide (k ∈ L.map fun p : Addr × List Int => p.2)), H, I.tok _, rfl, ?_⟩)
  rw [Bool.false_xor] at q
  exact q
theorem or_tnotin {X : Cx} (room : X.A.units + 64 < cLine) : OpR X (compareOp .NotIn) (rTIn X.K X.prog X.w true) := by
  intro pins s σ H x y v u Q I rx ry h
  obtain ⟨b, a, k, L, rfl, rfl, hb, ha, all, q⟩ := h
  cases rx; cases ry
  obtain ⟨es, ep, t, R⟩ := setT_get I ha all
  show wpAny _ _ (do return Value.bool (!(← contains (.ref a) (.ref b)))) _ _ s
  refine wpAny_bind (has_at R (I.isT hb) room fun tk => wpAny_pure ⟨V.bl (!decide (k ∈ L.map fun p : Addr × List Int => p.2)), H, I.tok _, rfl, ?_⟩)
  rw [Bool.true_xor] at q
  exact q
end Ft

set_option Elab.async false
set_option linter.all false
set_option maxRecDepth 100000
set_option maxHeartbeats 8000000
/-! set(t), t a tuple of tuples of ints -/
namespace Ft
open PySem PySem.Spec PyProof.Rows L2
abbrev setO0 (w : World) : Obj := { cls := .type "set", dict := none, data := .set #[] 0 (.fresh 0 0 (!w.params.followText "set-order")) }
theorem get_none {h : Heap} {b : Addr} (le : h.objs.size ≤ b) : h.get? b = none := by
  cases e : h.get? b with
  | none => rfl
  | some o => exact absurd (Nat.lt_of_lt_of_le (Heap.lt_size e) le) (Nat.lt_irrefl _)
section
variable {P : Program} {w : World} {A : Around} {E : Value → Shared → Prop} {s : Shared}
theorem set_of_tups {l : Addr} {items : Array Value} (ks : List (Addr × List Int)) {Q : Value → Shared → Prop} (calm : A.handled = none) (hl : s.heap.IsTuple l items) (its : items.toList = ks.map fun p => Value.ref p.1)
    (hk : ∀ p ∈ ks, IsT P w s.heap p.2 p.1) (few : ks.length < 64) (room : A.units + 3 < cLine)
    (h : ∀ (h' : Heap) (tk : Nat) L es ep t, SetTR P w h' s.heap.objs.size L es ep t → Got ks ks.length L → (∀ b o, s.heap.get? b = some o → h'.get? b = some o) → Q (.ref s.heap.objs.size) { s with heap := h', toks := tk }) :
    wpAny (model P w) A (call (.type "set") [.ref l]) Q E s := by
  have size : items.size = ks.length := by rw [← Array.length_toList, its, List.length_map]
  obtain ⟨c0, tl0, mro⟩ := F.called_set.mro
  have made := F.called_set.made; have sub := F.called_set.sub
  refine wpAny_call (codeAny_of_tree (show wpAny _ _ (callAny (.type "set") _) _ _ _ from ?_))
  refine wpAny_pure ⟨Code.quiet_builtin _ (by decide +kernel), codeAny_builtin F.entry_type_call ?_⟩
  rw [Around.under_plain (weight_type_call_type "set" [.ref l] []) rfl]
  have f1 := F.called_set.notType; have f2 := F.called_set.canCreate; have f3 := F.typeCall_set_1 (.ref l)
  repeat (any_goals (first | assumption | wp_step))
  refine codeAny_mono (code_set_led1 (.ref l) (E := E) (Q₁ := fun v s₁ => v = .ref s.heap.objs.size ∧ s₁ = { s with heap := s.heap.push (setO0 w) }) ⟨rfl, rfl⟩) fun r s₁ hr => ?_
  cases r with
  | error e => exact hr
  | ok fl =>
    cases fl with
    | ret v =>
      obtain ⟨rfl, rfl⟩ := hr
      have gS : (s.heap.push (setO0 w)).get? s.heap.objs.size = some (setO0 w) := Heap.get?_push_size _ rfl
      have tS : Shared.TypeIs { s with heap := s.heap.push (setO0 w) } (.ref s.heap.objs.size) "set" := ⟨_, gS, rfl⟩
      have f4 := F.called_set.init.lookup; have f5 := F.called_set.init.bind (.ref s.heap.objs.size)
      repeat (any_goals (first | assumption | wp_step))
      refine codeAny_mono (codeAny_call_builtin (R := wants (fun r s₂ => r = .none ∧ ∃ h' tk L es ep t, s₂ = { s with heap := h', toks := tk } ∧ SetTR P w h' s.heap.objs.size L es ep t ∧ Got ks ks.length L ∧ (∀ b o, s.heap.get? b = some o → h'.get? b = some o)) E) F.called_set.init.plain F.entry_set_init (check_set_init_1 tS ?_)) fun r₂ s₂ hr₂ => ?_
      · obtain ⟨ol, gl, cl, nl, dl⟩ := hl
        obtain ⟨ocls, odict, odata, oslots⟩ := ol
        simp only at cl dl; subst cl; subst dl
        have gl' : (s.heap.push (setO0 w)).get? l = some { cls := .type "tuple", dict := odict, data := .seq items nl, slots := oslots } := Heap.get?_push_of_some _ gl
        have f6 := F.sub_tuple_set; have f7 := F.sub_tuple_frozenset
        have f8 : (Value.type "tuple" == Value.type "dict") = false := by decide
        have isT : (s.heap.push (setO0 w)).IsTuple l items := ⟨_, gl', rfl, nl, rfl⟩
        unfold Builtin.«set.__init__» noKeywords; unfold Builtin.Frozenset.updateFrom; generalize ePI : pyIter = PI
        wp_walk
        subst ePI
        refine wpAny_pyIter_tuple isT (wpAny_bind (wpAny_runValue ?_))
        have ls : l < s.heap.objs.size := Heap.lt_size gl
        have sz : (s.heap.push (setO0 w)).objs.size = s.heap.objs.size + 1 := Heap.size_push ..
        refine set_update_tups ((Walks.tuple (by simp [calm]) _ l (by rw [sz]; exact Nat.ne_of_lt (Nat.lt_succ_of_lt ls)) items).toS) s.heap.objs.size (by rw [sz]; simp only [List.mem_cons, List.not_mem_nil, or_false, not_or]; exact ⟨Nat.ne_of_lt (Nat.lt_succ_self _), Nat.ne_of_gt ls⟩) ks size few (fun i v hv => ?_) s.heap hk (get_none (Nat.le_refl _)) (fun b hb => get_none (by rw [List.mem_singleton.mp hb, sz]; omega)) (by simp only [Around.in1_units]; omega) (items.size - 0) 0 _ (by omega) (Nat.zero_le _) ⟨⟨_, Heap.get?_push_size _ rfl, rfl, rfl⟩, (isT.push _)⟩ (fun b o e => Heap.get?_push_of_some _ (Heap.get?_push_of_some _ e)) ⟨[], #[], 0, _, setTR_fresh (Heap.get?_push_of_some _ gS), Got.zero ks⟩ fun s' L es ep t mv R' g' kp => ?_
        · have e : items.toList[i]? = some v := by rw [Array.getElem?_toList]; exact hv
          rw [its, List.getElem?_map] at e
          cases ek : ks[i]? with
          | none => rw [ek] at e; cases e
          | some p => rw [ek] at e; exact ⟨p, rfl, (Option.some.inj e).symm⟩
        · obtain ⟨h', g2, d', tk', os'⟩ := s'
          have e1 : g2 = s.gens := mv.gens
          have e2 : d' = s.drawn := mv.drawn
          have e3 : os' = s.os := mv.os
          subst e1 e2 e3
          rw [size] at g'
          exact wpAny_pure (wpAny_pure ⟨rfl, h', tk', L, es, ep, t, rfl, R', g', kp⟩)
      · cases r₂ with
        | error e => exact hr₂
        | ok fl₂ =>
          cases fl₂ with
          | ret r =>
            obtain ⟨rfl, h', tk, L, es, ep, t, rfl, R', g', kp⟩ := hr₂
            repeat (any_goals (first | assumption | wp_step))
            exact h _ _ _ _ _ _ R' g' kp
          | _ => exact hr₂.elim
    | _ => exact hr.elim
end
/-- set(t), t a tuple of tuples of ints -/
def rSetTT (K : PySem.W.Frag) (P : Program) (w : World) : List V → Hp → VK → Prop := fun xs H Q => ∃ (l : Addr) (ks : List (Addr × List Int)), xs = [V.ref l] ∧ SqT K H l (ks.map fun p => V.ref p.1) ∧ (∀ p ∈ ks, SqT K H p.1 (p.2.map V.int)) ∧ ks.length < 64 ∧
  ∀ a L, H a = none → (∀ p ∈ L, p ∈ ks) → (∀ p ∈ ks, p.2 ∈ L.map (·.2)) → Q (.ref a) (upd H a (SetTO P w a L))
theorem cr_setTT {X : Cx} (hc : X.calm = true) (room : X.A.units + 64 < cLine) : CallR X (.type "set") (rSetTT X.K X.prog X.w) := by
  intro pins s σ H xs us Q I r h
  obtain ⟨l, ks, rfl, hl, hk, few, q⟩ := h
  rw [Vals.ref1 r]
  obtain ⟨its, rv, pt, _⟩ := I.tuple hl
  have new : H s.heap.objs.size = none := I.hok.fresh (Nat.le_refl _)
  refine set_of_tups (P := X.prog) (w := X.w) ks (I.ok.hd hc) (show s.heap.IsTuple l its.toArray from pt) (by simpa using refs_of_vals rv) (fun p hp => I.isT (hk p hp)) few (by omega) fun h' tk L es ep t R g kp => ?_
  exact ⟨.ref s.heap.objs.size, upd H s.heap.objs.size (SetTO X.prog X.w s.heap.objs.size L), I.laid (t' := tk) kp (Nat.le_refl _) (setTO_new R.t0), rfl, q _ L new (fun p hp => List.mem_of_mem_take (g.sub p hp)) fun p hp => g.all p (by rw [List.take_length]; exact hp)⟩
end Ft

set_option Elab.async false
set_option linter.all false
set_option maxRecDepth 100000
set_option maxHeartbeats 8000000
/-! for x in zip(t, u), x one name, t and u tuples: the pair that was given out last is held still. -/
namespace Ft
open PySem PySem.Spec PyProof.Rows L2 RZ
section
variable {prog : Program} {w : World} {A : Around} {E : Value → Shared → Prop} {s : Shared} {z TI TO T i1 i2 l1 l2 : Addr} {f : Bool} {oT : Obj} {k1 k2 : Nat} {xs ys : Array Value}
theorem zipN_item {x y : Value} {Q : Value → Shared → Prop} (D : ZipApart z TI TO i1 i2 l1 l2) (hz : IsZipHeld s.heap z TI TO T f) (hT : s.heap.get? T = some oT) (hTI : IsPair s.heap TI (.ref i1) (.ref i2))
    (t1 : s.heap.IsTupleIter i1 l1 k1) (t2 : s.heap.IsTupleIter i2 l2 k2) (hl1 : s.heap.IsTuple l1 xs) (hl2 : s.heap.IsTuple l2 ys) (hx : xs[k1]? = some x) (hy : ys[k2]? = some y)
    (q : ∀ h', IsZipHeld h' z TI TO T true → h'.IsTupleIter i1 l1 (k1 + 1) → h'.IsTupleIter i2 l2 (k2 + 1) → IsPair h' s.heap.objs.size x y → (∀ c o, c ≠ z → c ≠ i1 → c ≠ i2 → s.heap.get? c = some o → h'.get? c = some o) → Q (.ref s.heap.objs.size) { s with heap := h' }) :
    wpAny (model prog w) A (Builtin.«zip.__next__» ⟨[.ref z], []⟩) (fun fin s' => ∃ v, fin = .done (.ret v) ∧ Q v s') E s := by
  show wpAny _ _ (field (.ref z) 2 >>= _) _ _ _
  refine wpAny_bind (wpAny_field hz rfl (x := .bool false) rfl (show wpAny _ _ (field (.ref z) 3 >>= _) _ _ _ from wpAny_bind (wpAny_field hz rfl (x := .ref TI) rfl (wpAny_bind (wpAny_seqItems hTI rfl ?_)))))
  refine (show wpAny _ _ (Builtin.SmallTypes.ownedTupleIsFree (.ref z) >>= _) _ _ _ from wpAny_bind (wpAny_tupleHeld_zip hz hT fun g1 z1 b1 => ?_))
  simp only [Bool.false_eq_true, if_false]; refine wpAny_bind ?_; rw [← Array.forIn_toList]
  simp only [List.forIn_cons, List.forIn_nil]; refine wpAny_bind (wpAny_bind (wpAny_holding ?_))
  refine (show wpAny _ _ (Builtin.SmallTypes.nextOf (.ref i1) >>= _) _ _ _ from wpAny_bind (nextOf_tuple_item (s := { s with heap := g1 }) (t1.extBut b1.extBut D.i1z) (hl1.extBut b1.extBut D.l1z) hx fun g2 u1 b2 => wpAny_pure (wpAny_pure ?_)))
  refine wpAny_bind (wpAny_bind (wpAny_holding (show wpAny _ _ (Builtin.SmallTypes.nextOf (.ref i2) >>= _) _ _ _ from ?_)))
  refine wpAny_bind (nextOf_tuple_item (s := { s with heap := g2 }) ((t2.extBut b1.extBut D.i2z).extBut b2.extBut D.i12.symm) ((hl2.extBut b1.extBut D.l2z).extBut b2.extBut D.l2i1) hy fun g3 u2 b3 => wpAny_pure (wpAny_pure (wpAny_pure ?_)))
  refine (show wpAny _ _ (newTuple [x, y] >>= _) _ _ _ from wpAny_bind (wpAny_newTuple ?_))
  have sz : g3.objs.size = s.heap.objs.size := b3.1.trans (b2.1.trans b1.1)
  have z3 : IsZipHeld g3 z TI TO T true := b3.extBut _ _ D.i2z.symm (b2.extBut _ _ D.i1z.symm z1)
  have kp : ∀ c o, c ≠ z → c ≠ i1 → c ≠ i2 → s.heap.get? c = some o → g3.get? c = some o := fun c o n1 n2 n3 e => b3.extBut _ _ n3 (b2.extBut _ _ n2 (b1.extBut _ _ n1 e))
  have pr : IsPair (g3.push { cls := .type "tuple", data := .seq #[x, y] }) g3.objs.size x y := Heap.get?_push_size _ rfl
  refine wpAny_pure ⟨_, rfl, (show Q (.ref g3.objs.size) _ from ?_)⟩
  rw [sz] at pr ⊢
  exact q _ (Heap.get?_push_of_some _ z3) ((u1.extBut b3.extBut D.i12).at fun o e => Heap.get?_push_of_some _ e) (u2.at fun o e => Heap.get?_push_of_some _ e) pr fun c o n1 n2 n3 e => Heap.get?_push_of_some _ (kp c o n1 n2 n3 e)
theorem zipN_end {Q : Fin → Shared → Prop} (calm : A.handled = none) (D : ZipApart z TI TO i1 i2 l1 l2) (hz : IsZipHeld s.heap z TI TO T f) (hT : s.heap.get? T = some oT) (hTI : IsPair s.heap TI (.ref i1) (.ref i2))
    (t1 : s.heap.IsTupleIter i1 l1 k1) (t2 : s.heap.IsTupleIter i2 l2 k2) (hl1 : s.heap.IsTuple l1 xs) (hl2 : s.heap.IsTuple l2 ys) (fin : xs[k1]? = none ∨ ys[k2]? = none)
    (q : ∀ h' e, (∀ c o, c ≠ z → c ≠ i1 → c ≠ i2 → s.heap.get? c = some o → h'.get? c = some o) → (∃ o, h'.get? e = some o ∧ o.cls = .type "StopIteration") → E (.ref e) { s with heap := h' }) : wpAny (model prog w) A (Builtin.«zip.__next__» ⟨[.ref z], []⟩) Q E s := by
  show wpAny _ _ (field (.ref z) 2 >>= _) _ _ _
  refine wpAny_bind (wpAny_field hz rfl (x := .bool false) rfl (show wpAny _ _ (field (.ref z) 3 >>= _) _ _ _ from wpAny_bind (wpAny_field hz rfl (x := .ref TI) rfl (wpAny_bind (wpAny_seqItems hTI rfl ?_)))))
  refine (show wpAny _ _ (Builtin.SmallTypes.ownedTupleIsFree (.ref z) >>= _) _ _ _ from wpAny_bind (wpAny_tupleHeld_zip hz hT fun g1 z1 b1 => ?_))
  simp only [Bool.false_eq_true, if_false]; refine wpAny_bind ?_; rw [← Array.forIn_toList]
  simp only [List.forIn_cons, List.forIn_nil]; refine wpAny_bind (wpAny_bind (wpAny_holding ?_))
  refine (show wpAny _ _ (Builtin.SmallTypes.nextOf (.ref i1) >>= _) _ _ _ from ?_)
  cases hx : xs[k1]? with
  | none => exact wpAny_bind (nextOf_tuple_end (s := { s with heap := g1 }) calm (t1.extBut b1.extBut D.i1z) (hl1.extBut b1.extBut D.l1z) hx fun g2 e b2 he => q g2 e (fun c o n1 n2 _ v => b2 _ _ n2 (b1.extBut _ _ n1 v)) he)
  | some x =>
    have hy : ys[k2]? = none := fin.elim (fun v => by rw [hx] at v; cases v) id
    refine wpAny_bind (nextOf_tuple_item (s := { s with heap := g1 }) (t1.extBut b1.extBut D.i1z) (hl1.extBut b1.extBut D.l1z) hx fun g2 u1 b2 => wpAny_pure (wpAny_pure ?_))
    refine wpAny_bind (wpAny_bind (wpAny_holding (show wpAny _ _ (Builtin.SmallTypes.nextOf (.ref i2) >>= _) _ _ _ from ?_)))
    exact wpAny_bind (nextOf_tuple_end (s := { s with heap := g2 }) calm ((t2.extBut b1.extBut D.i2z).extBut b2.extBut D.i12.symm) ((hl2.extBut b1.extBut D.l2z).extBut b2.extBut D.l2i1) hy fun g3 e b3 he => q g3 e (fun c o n1 n2 n3 v => b3 _ _ n3 (b2.extBut _ _ n2 (b1.extBut _ _ n1 v))) he)
theorem nextN_item {x y : Value} {Q : Option Value → Shared → Prop} (D : ZipApart z TI TO i1 i2 l1 l2) (hz : IsZipHeld s.heap z TI TO T f) (hT : s.heap.get? T = some oT) (hTI : IsPair s.heap TI (.ref i1) (.ref i2))
    (t1 : s.heap.IsTupleIter i1 l1 k1) (t2 : s.heap.IsTupleIter i2 l2 k2) (hl1 : s.heap.IsTuple l1 xs) (hl2 : s.heap.IsTuple l2 ys) (hx : xs[k1]? = some x) (hy : ys[k2]? = some y)
    (q : ∀ h', IsZipHeld h' z TI TO T true → h'.IsTupleIter i1 l1 (k1 + 1) → h'.IsTupleIter i2 l2 (k2 + 1) → IsPair h' s.heap.objs.size x y → (∀ c o, c ≠ z → c ≠ i1 → c ≠ i2 → s.heap.get? c = some o → h'.get? c = some o) → Q (some (.ref s.heap.objs.size)) { s with heap := h' }) :
    wpAny (model prog w) A (pyNext (.ref z)) Q E s := by
  have ty : s.TypeIs (.ref z) "zip" := ⟨_, hz, rfl⟩
  unfold pyNext; refine wpAny_bind (wpAny_attempt (wpAny_callSpecial?_slot (name := Str.ofString "__next__") ty F.slot_zip_next ?_))
  exact wpAny_call_entry F.slot_zip_next ty F.entry_zip_next (zipN_item D hz hT hTI t1 t2 hl1 hl2 hx hy fun h' a b c d e => wpAny_pure (q h' a b c d e)) (F.args_zip_next_1 _)
theorem nextN_end {Q : Option Value → Shared → Prop} (calm : A.handled = none) (D : ZipApart z TI TO i1 i2 l1 l2) (hz : IsZipHeld s.heap z TI TO T f) (hT : s.heap.get? T = some oT) (hTI : IsPair s.heap TI (.ref i1) (.ref i2))
    (t1 : s.heap.IsTupleIter i1 l1 k1) (t2 : s.heap.IsTupleIter i2 l2 k2) (hl1 : s.heap.IsTuple l1 xs) (hl2 : s.heap.IsTuple l2 ys) (fin : xs[k1]? = none ∨ ys[k2]? = none)
    (q : ∀ h', (∀ c o, c ≠ z → c ≠ i1 → c ≠ i2 → s.heap.get? c = some o → h'.get? c = some o) → Q none { s with heap := h' }) : wpAny (model prog w) A (pyNext (.ref z)) Q E s := by
  have ty : s.TypeIs (.ref z) "zip" := ⟨_, hz, rfl⟩
  unfold pyNext; refine wpAny_bind (wpAny_attempt (wpAny_callSpecial?_slot (name := Str.ofString "__next__") ty F.slot_zip_next ?_))
  refine wpAny_call_entry F.slot_zip_next ty F.entry_zip_next (zipN_end calm D hz hT hTI t1 t2 hl1 hl2 fin fun h' e kp he => ?_) (F.args_zip_next_1 _)
  obtain ⟨o, ho, hc⟩ := he
  exact wpAny_bind (wpAny_isInstance (T := "StopIteration") (b := true) ⟨o, ho, hc⟩ isSubtype_stop (wpAny_pure (q _ kp)))
end
end Ft

set_option Elab.async false
set_option linter.all false
set_option maxRecDepth 100000
set_option maxHeartbeats 8000000
/-! [e for x in zip(t, u)], x one name, t and u tuples -/
namespace Ft
open PySem PySem.Spec PyProof.Rows L2 RZ
/-- the items in pairs of their own; W by the turns that are done -/
def tLcZ (K : PySem.W.Frag) (ta : TA) (i : Nat) (te : TE) (vs : List Nat) : TE := fun σ H Q => ta σ H fun as H1 => ∃ (a b : Addr) (xs ys : List V), as = [.ref a, .ref b] ∧ SqT K H1 a xs ∧ SqT K H1 b ys ∧ ∀ D, H1 D = none → ∃ W : Nat → Hp → Prop, W 0 (upd H1 D (.lst [])) ∧
  (∀ j H, W j H → SqT K H a xs ∧ SqT K H b ys) ∧ (∀ j x y H T, W j H → xs[j]? = some x → ys[j]? = some y → H T = none → gName i (.ref T) (wipe σ vs) (upd H T (.tup [x, y])) fun σ2 H2 => wipe σ2 vs = wipe σ vs ∧ te σ2 H2 fun v H3 => ∃ acc, H3 D = some (.lst acc) ∧ acc.length < sizeLine ∧ (∀ c ps, upd H T (.tup [x, y]) c = some (.tup ps) → H3 c = some (.tup ps)) ∧ W (j + 1) (upd H3 D (.lst (acc ++ [v])))) ∧
  ∀ H, W (min xs.length ys.length) H → Q (.ref D) H
/-- the zip as it stands between two turns: nothing given out yet, or a pair that is tracked -/
def ZAt (h : Heap) (H : Hp) (z TI TO i1 i2 a b : Addr) (j : Nat) : Prop := IsPair h TI (.ref i1) (.ref i2) ∧ h.IsTupleIter i1 a j ∧ h.IsTupleIter i2 b j ∧ (∃ x y, IsPair h TO x y) ∧ (IsZip h z TI TO .none ∨ ∃ (T : Addr) (f : Bool) (ps : List V), IsZipHeld h z TI TO T f ∧ H T = some (.tup ps))
theorem ZAt.keep {h h' : Heap} {H H' : Hp} {z TI TO i1 i2 a b : Addr} {j : Nat} (q : ZAt h H z TI TO i1 i2 a b j) (k : ∀ c ∈ [z, TI, TO, i1, i2], ∀ o, h.get? c = some o → h'.get? c = some o) (t : ∀ c ps, H c = some (.tup ps) → H' c = some (.tup ps)) : ZAt h' H' z TI TO i1 i2 a b j := by
  obtain ⟨q1, q2, q3, ⟨x, y, q4⟩, q5⟩ := q
  refine ⟨k _ (by simp) _ q1, q2.at fun o e => k _ (by simp) o e, q3.at fun o e => k _ (by simp) o e, ⟨x, y, k _ (by simp) _ q4⟩, ?_⟩
  rcases q5 with q5 | ⟨T, f, ps, q5, q6⟩
  · exact .inl (k _ (by simp) _ q5)
  · exact .inr ⟨T, f, ps, k _ (by simp) _ q5, t _ _ q6⟩
theorem ZAt.lt {h : Heap} {H : Hp} {z TI TO i1 i2 a b : Addr} {j : Nat} (q : ZAt h H z TI TO i1 i2 a b j) : ∀ c ∈ [z, TI, TO, i1, i2], ∃ o, h.get? c = some o ∧ ∀ v, o.data ≠ .cell v := by
  obtain ⟨q1, ⟨o1, e1, _, d1⟩, ⟨o2, e2, _, d2⟩, ⟨x, y, q4⟩, q5⟩ := q
  intro c hc
  have hc' : c = z ∨ c = TI ∨ c = TO ∨ c = i1 ∨ c = i2 := by simpa using hc
  rcases hc' with rfl | rfl | rfl | rfl | rfl
  · rcases q5 with q5 | ⟨T, f, ps, q5, _⟩
    · exact ⟨_, q5, fun v q => nomatch q⟩
    · exact ⟨_, q5, fun v q => nomatch q⟩
  · exact ⟨_, q1, fun v q => nomatch q⟩
  · exact ⟨_, q4, fun v q => nomatch q⟩
  · exact ⟨o1, e1, fun v q => by rw [d1] at q; cases q⟩
  · exact ⟨o2, e2, fun v q => by rw [d2] at q; cases q⟩
section
variable {X : Cx}
/-- the next pair -/
theorem zNext {pins : List (Addr × Obj)} {σ : L2.St} {H : Hp} {s : Shared} {z TI TO i1 i2 a b : Addr} {j : Nat} {xs ys : List V} {x y : V} {E : Value → Shared → Prop} {Q : Option Value → Shared → Prop} (D : ZipApart z TI TO i1 i2 a b) (I : Inv X pins σ H s) (fp : ∀ c ∈ [z, TI, TO, i1, i2], FpOk X pins H c) (q : ZAt s.heap H z TI TO i1 i2 a b j)
    (ha : SqT X.K H a xs) (hb : SqT X.K H b ys) (hx : xs[j]? = some x) (hy : ys[j]? = some y)
    (h : ∀ s' T, H T = none → Inv X pins σ (upd H T (.tup [x, y])) s' → ZAt s'.heap (upd H T (.tup [x, y])) z TI TO i1 i2 a b (j + 1) → (∀ c ∈ [z, TI, TO, i1, i2], upd H T (.tup [x, y]) c = none) → Q (some (.ref T)) s') : wpAny (model X.prog X.w) X.A (pyNext (.ref z)) Q E s := by
  have there := q.lt
  obtain ⟨qTI, q1, q2, ⟨x0, y0, qTO⟩, q5⟩ := q
  obtain ⟨its, rv, p1, _⟩ := I.tuple ha
  obtain ⟨its2, rv2, p2, _⟩ := I.tuple hb
  obtain ⟨u, hu, ru⟩ := rv.get hx
  obtain ⟨u2, hu2, ru2⟩ := rv2.get hy
  have new : H s.heap.objs.size = none := I.hok.fresh (Nat.le_refl _)
  have out : ∀ c ∈ [z, TI, TO, i1, i2], upd H s.heap.objs.size (.tup [x, y]) c = none := fun c hc => by
    obtain ⟨o, e, _⟩ := there c hc
    rw [upd_ne (Nat.ne_of_lt (Heap.lt_size e))]
    exact (fp c hc).1
  have go : ∀ h', IsPair h' s.heap.objs.size u u2 → (∀ c o, c ≠ z → c ≠ TO → c ≠ i1 → c ≠ i2 → s.heap.get? c = some o → h'.get? c = some o) → (∃ v w, IsPair h' TO v w) → h'.IsTupleIter i1 a (j + 1) → h'.IsTupleIter i2 b (j + 1) →
      (∃ T f ps, IsZipHeld h' z TI TO T f ∧ upd H s.heap.objs.size (.tup [x, y]) T = some (.tup ps)) → Q (some (.ref s.heap.objs.size)) { s with heap := h' } := fun h' pr kp to' a1 a2 held => by
    have ob : ObjOk X.prog X.w (upd H s.heap.objs.size (.tup [x, y])) h' s.heap.objs.size (.tup [x, y]) := ⟨by show 2 ≤ sizeLine; decide, [u, u2], .cons ru (.cons ru2 .nil), ⟨_, pr, rfl, _, rfl⟩⟩
    refine h _ _ new (I.turnedNew (t' := s.toks) (ch := [z, TI, TO, i1, i2]) (fun c o hc e => kp c o (fun n => hc (by simp [n])) (fun n => hc (by simp [n])) (fun n => hc (by simp [n])) (fun n => hc (by simp [n])) e) fp (Nat.le_refl _) ob) ⟨kp _ _ D.TIz D.TITO D.TIi1 D.TIi2 qTI, a1, a2, to', .inr held⟩ out
  rcases q5 with qz | ⟨T, f, ps, qz, hT⟩
  · refine pyNext_zipT_item D qz qTI qTO q1 q2 p1 p2 (x := u) (y := u2) (by simpa using hu) (by simpa using hu2) fun h' z' to' a1 a2 pr _ kp => ?_
    exact go h' pr kp ⟨_, _, to'⟩ a1 a2 ⟨_, false, _, z', upd_same⟩
  · obtain ⟨_, _, _, ⟨oT, gT, _⟩⟩ : ObjOk X.prog X.w H s.heap T (.tup ps) := I.hok T _ hT
    refine nextN_item D qz gT qTI q1 q2 p1 p2 (x := u) (y := u2) (by simpa using hu) (by simpa using hu2) fun h' z' a1 a2 pr kp => ?_
    refine go h' pr (fun c o n1 _ n3 n4 e => kp c o n1 n3 n4 e) ⟨_, _, kp _ _ D.TOz D.TOi1 D.TOi2 qTO⟩ a1 a2 ⟨T, true, ps, z', ?_⟩
    rw [upd_ne (fun e => by rw [e, new] at hT; cases hT)]
    exact hT
/-- the end -/
theorem zDone {pins : List (Addr × Obj)} {σ : L2.St} {H : Hp} {s : Shared} {z TI TO i1 i2 a b : Addr} {j : Nat} {xs ys : List V} {E : Value → Shared → Prop} {Q : Option Value → Shared → Prop} (hc : X.calm = true) (D : ZipApart z TI TO i1 i2 a b) (I : Inv X pins σ H s) (fp : ∀ c ∈ [z, TI, TO, i1, i2], FpOk X pins H c) (q : ZAt s.heap H z TI TO i1 i2 a b j)
    (ha : SqT X.K H a xs) (hb : SqT X.K H b ys) (fin : xs.length ≤ j ∨ ys.length ≤ j) (h : ∀ s', Inv X pins σ H s' → Q none s') : wpAny (model X.prog X.w) X.A (pyNext (.ref z)) Q E s := by
  obtain ⟨qTI, q1, q2, ⟨x0, y0, qTO⟩, q5⟩ := q
  obtain ⟨its, rv, p1, _⟩ := I.tuple ha
  obtain ⟨its2, rv2, p2, _⟩ := I.tuple hb
  have n1 := rv.length
  have n2 := rv2.length
  have no : its.toArray[j]? = none ∨ its2.toArray[j]? = none := fin.elim (fun e => .inl (by simp; omega)) fun e => .inr (by simp; omega)
  have go : ∀ h', (∀ c o, c ≠ z → c ≠ TO → c ≠ i1 → c ≠ i2 → s.heap.get? c = some o → h'.get? c = some o) → Q none { s with heap := h' } := fun h' kp => h _ (I.turnedL (t' := s.toks) (ch := [z, TI, TO, i1, i2]) (fun c o hc e => kp c o (fun n => hc (by simp [n])) (fun n => hc (by simp [n])) (fun n => hc (by simp [n])) (fun n => hc (by simp [n])) e) fp)
  rcases q5 with qz | ⟨T, f, ps, qz, hT⟩
  · exact pyNext_zipT_end (I.ok.hd hc) D qz qTI qTO q1 q2 p1 p2 no go
  · obtain ⟨_, _, _, ⟨oT, gT, _⟩⟩ : ObjOk X.prog X.w H s.heap T (.tup ps) := I.hok T _ hT
    exact nextN_end (I.ok.hd hc) D qz gT qTI q1 q2 p1 p2 no fun h' kp => go h' fun c o m1 _ m3 m4 e => kp c o m1 m3 m4 e
theorem pe_lcZ {elt e1 e2 : Expr} {nx : Str} {px pz cpos pos : Pos} {scope : Scope} {own : List (Str × Nat)} {i : Nat} {ta : TA} {te : TE} (hc : X.calm = true) (hN : X.N.Nodup) (hg : Gl X "zip") (hm : X.mg "zip" = none) (ha : PA X [e1, e2] ta) (ok : BlkOk X.N X.env.scope scope own)
    (pg : ∀ (s : Shared) (H : Hp) (C : Addr) (cl : List (Str × Addr)) (fp : List Addr), PG (X.blk s H scope (compEnvC scope cl C X.env) fp) (.Name nx px) (gName i)) (he : ∀ (s : Shared) (H : Hp) (C : Addr) (cl : List (Str × Addr)) (fp : List Addr), PE (X.blk s H scope (compEnvC scope cl C X.env) fp) elt te)
    (st : starEach [e1, e2] X.env = (false, eval e1 X.env) :: starEach [e2] X.env := by rfl) (pl : (backTo cpos (starEach [e2] X.env)).any (·.1) = false := by rfl) (fs : ∀ x, foldedSetIterable (.Call (.Name "zip" pz) [e1, e2] [] cpos) X.env x = pure x := by intro _; rfl) :
    PE X (.ListComp elt [⟨.Name nx px, .Call (.Name "zip" pz) [e1, e2] [] cpos, [], 0⟩] scope pos) (tLcZ X.K ta i te (own.map (·.2))) := by
  refine ⟨fun pins s σ H Q I h => ?_⟩
  rw [eval_ListComp]
  have free : ∀ y ∈ scope.names, y.2 = .free → ∃ c, X.env.cells.lookup y.1 = some c := fun y hy e => (ok.free y hy e).elim (fun k => I.ok.has _ (.inl k)) fun k => I.ok.has _ (.inr k)
  refine wpAny_comprehension_free (use := none) rfl fs (closure_ok free) ok.kind (fun y hy e => by rw [ok.uniq y hy, e]) ?_
  refine Call_ (ld_blt I hg hm PyProof.Rows.boot_zip (PyProof.Rows.callWith_type1 (thn (ha.run cpos pins s σ H _ I h) fun us s1 ⟨vs, H1, I1, r1, q1⟩ => ?_) st pl))
  obtain ⟨a, b, xs, ys, rfl, hx, hy, q⟩ := q1
  cases r1 with
  | cons r rr => cases rr with
    | cons r' rr =>
      cases rr; cases r; cases r'
      obtain ⟨its, rv, p1, _⟩ := I1.tuple hx
      obtain ⟨its2, rv2, p2, _⟩ := I1.tuple hy
      obtain ⟨o1, g1, _⟩ := id p1
      obtain ⟨o2, g2, _⟩ := id p2
      refine call_zipT (show s1.heap.IsTuple a its.toArray from p1) (show s1.heap.IsTuple b its2.toArray from p2) fun h' hz hTI hTO t1 t2 sz1 kp1 => wpAny_pyIter_zip hz ?_
      have D := PySem.W.ktu_apart s1.heap.objs.size a b (Heap.lt_size g1) (Heap.lt_size g2)
      generalize ez : s1.heap.objs.size + 4 = z at hz D
      generalize eTI : s1.heap.objs.size + 2 = TI at hz hTI D
      generalize eTO : s1.heap.objs.size + 3 = TO at hz hTO D
      generalize ei2 : s1.heap.objs.size + 1 = i2 at hTI t2 D
      generalize ei1 : s1.heap.objs.size = i1 at hTI t1 D ez eTI eTO ei2
      have I2 : Inv X pins σ H1 { s1 with heap := h' } := I1.kept (t' := s1.toks) kp1
      have low : ∀ c ∈ [z, TI, TO, i1, i2], s1.heap.objs.size ≤ c ∧ c < h'.objs.size := by
        intro c hc
        simp only [List.mem_cons, List.not_mem_nil, or_false] at hc
        rcases hc with e | e | e | e | e <;> rw [e, sz1] <;> omega
      have ok1 : ∀ c ∈ [z, TI, TO, i1, i2], FpOk X pins H1 c := fun c hc => I1.fpOk (low c hc).1 (I1.hok.fresh (low c hc).1)
      have zt : ZAt h' H1 z TI TO i1 i2 a b 0 := ⟨hTI, t1, t2, ⟨_, _, hTO⟩, .inl hz⟩
      refine wpAny_newObj_type (newEnv_comp ?_) (by show 0 ≤ sizeLine; decide)
      generalize eL : ({ s1 with heap := h' } : Shared).heap.objs.size = L
      have nL : H1 L = none := I2.hok.fresh (Nat.le_of_eq eL)
      obtain ⟨W, w0, keepW, turn, last⟩ := q L nL
      generalize es3 : ({ s1 with heap := h'.push { cls := .type "list", data := .seq ([] : List Value).toArray } } : Shared) = s3
      have h3 : s3.heap = h'.push { cls := .type "list", data := .seq ([] : List Value).toArray } := by rw [← es3]
      have I3 : Inv X pins σ (upd H1 L (.lst [])) s3 := by
        rw [← es3]
        refine I2.laid (t' := s1.toks) (fun c o e => Heap.get?_push_of_some _ e) (Nat.le_of_eq eL) ⟨Nat.zero_le _, [], 0, .nil, ?_⟩
        rw [← eL]
        exact Heap.get?_push_size _ rfl
      have eL' : h'.objs.size = L := eL
      have ok3 : ∀ c ∈ [z, TI, TO, i1, i2], FpOk X pins (upd H1 L (.lst [])) c ∧ c < s3.heap.objs.size := fun c hc => by
        refine ⟨⟨?_, (ok1 c hc).2⟩, by rw [h3, Heap.size_push]; exact Nat.lt_succ_of_lt (low c hc).2⟩
        rw [upd_ne (by rw [← eL']; exact Nat.ne_of_lt (low c hc).2)]
        exact (ok1 c hc).1
      have I4 := block_start I3 ok hN ok3
      have pg4 := pg s3 (upd H1 L (.lst [])) s3.heap.objs.size (cellsFrom (s3.heap.objs.size + 1) scope.names (cloFrom X.env.cells scope.names [])) [z, TI, TO, i1, i2]
      have pe4 := he s3 (upd H1 L (.lst [])) s3.heap.objs.size (cellsFrom (s3.heap.objs.size + 1) scope.names (cloFrom X.env.cells scope.names [])) [z, TI, TO, i1, i2]
      show codeAny _ _ (.compStart (.ListComp elt [⟨.Name nx px, .Call (.Name "zip" pz) [e1, e2] [] cpos, [], 0⟩] scope pos) 0 (.ref z) (.ref L) (compEnvC scope (cellsFrom (s3.heap.objs.size + 1) scope.names (cloFrom X.env.cells scope.names [])) s3.heap.objs.size X.env)) (compPost (model X.prog X.w) X.A X.xe none (EP X pins σ Q) (.ref L) s3.heap.objs.size) { s3 with heap := pushCells (s3.heap.push { cls := .type "dict", data := .dict #[] }) scope.names }
      have nfp : ∀ c ∈ [z, TI, TO, i1, i2], (upd H1 L (.lst [])) c = none := fun c hc => (ok3 c hc).1.1
      have tups : ∀ c ps, H1 c = some (.tup ps) → upd H1 L (.lst []) c = some (.tup ps) := fun c ps e => by rw [upd_ne (fun n => by rw [n, nL] at e; cases e)]; exact e
      generalize ece : compEnvC scope (cellsFrom (s3.heap.objs.size + 1) scope.names (cloFrom X.env.cells scope.names [])) s3.heap.objs.size X.env = ce at I4 pg4 pe4 ⊢
      have cL : ce.locals = s3.heap.objs.size := by rw [← ece]; rfl
      generalize upd H1 L (.lst []) = H3 at I3 I4 pg4 pe4 w0 nfp ok3 tups
      generalize es4 : ({ s3 with heap := pushCells (s3.heap.push { cls := .type "dict", data := .dict #[] }) scope.names } : Shared) = s4 at I4 ⊢
      have k4 : ∀ c o, h'.get? c = some o → s4.heap.get? c = some o := fun c o e => by rw [← es4]; exact pushCells_keeps _ _ _ _ (Heap.get?_push_of_some _ (by rw [h3]; exact Heap.get?_push_of_some _ e))
      have z4 : ZAt s4.heap H3 z TI TO i1 i2 a b 0 := zt.keep (fun c _ o e => k4 c o e) tups
      have stat : ∀ {σ' : L2.St} {H' : Hp} {s' : Shared}, Inv (X.blk s3 H3 scope ce [z, TI, TO, i1, i2]) [] σ' H' s' → (∀ c ∈ [z, TI, TO, i1, i2], H' c = none) → ∀ c ∈ [z, TI, TO, i1, i2], FpOk (X.blk s3 H3 scope ce [z, TI, TO, i1, i2]) [] H' c := fun {σ' H' s'} J hn c hc =>
        ⟨hn c hc, (J.ok.exf c hc).1, J.ok.exfs c hc, .inl hc, fun x d e => (J.ok.exf c hc).2 x d e, fun p hp => absurd (show p ∈ ([] : List (Addr × Obj)) ++ [] from hp) (by simp)⟩
      have loop : codeAny (model X.prog X.w) X.A (.compLoop (.ListComp elt [⟨.Name nx px, .Call (.Name "zip" pz) [e1, e2] [] cpos, [], 0⟩] scope pos) 0 (.ref z) (.ref L) ce) (compPost (model X.prog X.w) X.A X.xe none (EP X pins σ Q) (.ref L) s3.heap.objs.size) s4 := by
        refine compLoop_any (fun n s' => ∃ j H', n + j = min xs.length ys.length ∧ Inv (X.blk s3 H3 scope ce [z, TI, TO, i1, i2]) [] (wipe σ (own.map (·.2))) H' s' ∧ ZAt s'.heap H' z TI TO i1 i2 a b j ∧ (∀ c ∈ [z, TI, TO, i1, i2], H' c = none) ∧ W j H') ?_ _ ⟨0, H3, rfl, I4, z4, nfp, w0⟩
        rintro n s5 ⟨j, H5, ej, I5, z5, n5, w5⟩
        obtain ⟨x5, y5⟩ := keepW j H5 w5
        by_cases e : n = 0
        · refine zDone (X := X.blk s3 H3 scope ce [z, TI, TO, i1, i2]) hc D I5 (stat I5 n5) z5 x5 y5 (by omega) fun s6 I6 => ?_
          have I7 : Inv X pins σ H5 s6 := I3.call' (ch := [z, TI, TO, i1, i2]) I6.os I6.base I6.hok I6.bare fun c hc => ⟨(ok3 c hc).1.2.2.2.1, (ok3 c hc).1.2.1, (ok3 c hc).1.2.2.2.2.1, (ok3 c hc).1.2.2.2.2.2⟩
          have nC : H5 s3.heap.objs.size = none := by rw [← cL]; exact I6.free
          obtain ⟨m, hn, _⟩ := I6.loc
          have hn : s6.heap.Ns ce.locals m := hn
          rw [cL] at hn
          obtain ⟨f0, f1, f2, f3, f4, f5⟩ := I3.fpOk (Nat.le_refl _) nC
          have jm : j = min xs.length ys.length := by omega
          rw [jm] at w5
          exact ⟨m, hn, fun h'' sb => ⟨.ref L, H5, I7.turned (t' := s6.toks) (fun c o hc e => (sb.2 c hc).trans e) f0 f1 f3 f4 f5, rfl, last H5 w5⟩⟩
        · have jx : j < xs.length := by omega
          have jy : j < ys.length := by omega
          refine zNext (X := X.blk s3 H3 scope ce [z, TI, TO, i1, i2]) D I5 (stat I5 n5) z5 x5 y5 (List.getElem?_eq_getElem jx) (List.getElem?_eq_getElem jy) fun s6 T nT I6 z6 n6 => ?_
          have J6 := I6.pinned (stat I6 n6) z6.lt
          refine wpAny_pure ?_
          refine thnF (pg4.run _ s6 _ _ (.ref T) (.ref T) _ J6 rfl (turn j _ _ H5 T w5 (List.getElem?_eq_getElem jx) (List.getElem?_eq_getElem jy) nT)) fun _ s8 ⟨σ8, H8, I8, hw8, q8⟩ => ?_
          refine thnF ((pts_nil (X := X.blk s3 H3 scope ce [z, TI, TO, i1, i2])).run _ s8 σ8 H8 (fun b H' => b = true ∧ H' = H8) I8 ⟨rfl, rfl⟩) fun bb s9 ⟨H9, I9, eb, eH⟩ => ?_
          subst eb eH
          simp only [if_true]
          refine thnF (pe4.run _ s9 σ8 _ _ I9 q8) fun v s10 ⟨yv, H10, I10, r10, acc, hA, hz10, ht10, w'⟩ => ?_
          refine app_ok (X := X.blk s3 H3 scope ce [z, TI, TO, i1, i2]) I10 hA hz10 r10 fun s11 I11 => ?_
          have pin' : ∀ c ∈ [z, TI, TO, i1, i2], ∀ o, s6.heap.get? c = some o → s11.heap.get? c = some o ∧ upd H10 L (.lst (acc ++ [yv])) c = none := fun c hc o e =>
            let u := I11.pin (c, o) (List.mem_append_right _ (List.mem_append_right _ (mem_pinsAt hc e)))
            ⟨u.1, u.2.1⟩
          have hl : (wipe σ (own.map (·.2))).length = σ8.length := by rw [← hw8, wipe_length]
          refine ⟨n - 1, by omega, j + 1, _, by omega, (I11.unpinned (pins := [])).weak hl (fun u v e => ?_), z6.keep (fun c hc o e => (pin' c hc o e).1) (fun c ps e => ?_), fun c hc => ?_, w'⟩
          · rw [← hw8] at e
            exact (wipe_some e).1
          · have e' := ht10 c ps e
            rw [upd_ne (fun n => by rw [n, hA] at e'; cases e')]
            exact e'
          · obtain ⟨o, e, _⟩ := z6.lt c hc
            exact (pin' c hc o e).2
      exact codeAny_compStart_list loop (wpAny_pyIter_zip (k4 _ _ hz) loop)
end
end Ft

set_option Elab.async false
set_option linter.all false
set_option maxRecDepth 100000
set_option maxHeartbeats 8000000
namespace Ft
open PySem PySem.Spec PyProof.Rows L2
theorem atI_end {α : Type} {xs : List α} {v : α} (h : xs[xs.length - 1]? = some v) : atI xs (-1) = some v := by
  have hj := (List.getElem?_eq_some_iff.mp h).1
  obtain ⟨l, z, rfl⟩ : ∃ l z, xs = l ++ [z] := ⟨xs.dropLast, xs.getLast (by intro e; rw [e] at hj; simp at hj), (List.dropLast_concat_getLast _).symm⟩
  have e : v = z := by simpa using h.symm
  rw [e]
  exact atI_last l z
theorem cutG_inner {α : Type} {l : List α} : cutG l (some 1) (some (-1)) = (l.drop 1).take (l.length - 2) := by
  unfold cutG
  have e1 : HT.sIx l.length 0 (some 1) = min 1 l.length := HT.sIx_nat _ _ 1
  have e2 : HT.sIx l.length l.length (some (-1)) = l.length - 1 := by
    show (if (-1 : Int) < 0 then ((-1 : Int) + (l.length : Int)).toNat else min (-1 : Int).toNat l.length) = l.length - 1
    rw [if_pos (by omega)]
    omega
  rw [e1, e2]
  cases l with
  | nil => rfl
  | cons a l =>
    have e3 : min 1 (a :: l).length = 1 := by rw [List.length_cons]; omega
    rw [e3]
    rfl
theorem cutG_map {α β : Type} (f : α → β) (l : List α) (lo hi : Option Int) : cutG (l.map f) lo hi = (cutG l lo hi).map f := by
  unfold cutG
  rw [List.length_map, List.map_take, List.map_drop]
theorem getD_at {l : List Nat} {i : Nat} (h : i < l.length) : l[i]? = some (l.getD i 0) := by
  rw [List.getD_eq_getElem?_getD, List.getElem?_eq_getElem h]
  rfl
/-! ### ways, of data -/
def stepB (rs : List (Nat × Nat)) (l : List Nat) (i : Nat) : Bool := decide ((l.getD i 0, l.getD (i + 1) 0) ∈ rs)
def wayLB (C : Chart) (S l : List Nat) : Bool := decide (2 ≤ l.length) && (decide (l.getD 0 0 ∈ S) && (decide (l.getD (l.length - 1) 0 ∈ C.wished) && (!((l.drop 1).take (l.length - 2)).any (fun p => decide (p ∈ C.wished)) && (List.range (l.length - 1)).all (stepB C.roads l))))
def wayD (C : Chart) (S : List Nat) : PyData → Bool
  | .tuple ds => match natsL ds with
    | some l => wayLB C S l
    | none => false
  | _ => false
theorem wayLB_lt {C : Chart} (ok : C.Ok) {S l : List Nat} (h : wayLB C S l = true) : ∀ x ∈ l, x < C.n := by
  unfold wayLB at h
  simp only [Bool.and_eq_true, decide_eq_true_eq, List.all_eq_true, List.mem_range] at h
  obtain ⟨h2, _, _, _, hs⟩ := h
  intro x hx
  obtain ⟨i, hi⟩ := List.getElem?_of_mem hx
  have il := (List.getElem?_eq_some_iff.mp hi).1
  have ex : l.getD i 0 = x := by rw [List.getD_eq_getElem?_getD, hi]; rfl
  by_cases e : i + 1 < l.length
  · have := hs i (by omega)
    unfold stepB at this
    have := (ok.inR _ (of_decide_eq_true this)).1
    rw [← ex]
    exact this
  · have := hs (i - 1) (by omega)
    unfold stepB at this
    have := (ok.inR _ (of_decide_eq_true this)).2
    rw [show i - 1 + 1 = i by omega] at this
    rw [← ex]
    exact this
/-- the roads of a map as rows of two numbers -/
theorem pairs_ks {K : PySem.W.Frag} {H : Hp} : ∀ {ts : List Addr} {ps : List (Nat × Nat)}, PairsAt K H ts ps → ∃ ks : List (Addr × List Int), ks.map (fun p => V.ref p.1) = ts.map V.ref ∧ ks.map (·.2) = ps.map two ∧ ∀ p ∈ ks, SqT K H p.1 (p.2.map V.int)
  | _, _, .nil => ⟨[], rfl, rfl, fun _ h => nomatch h⟩
  | t :: _, p :: _, .cons r rest => by
    obtain ⟨ks, e1, e2, all⟩ := pairs_ks rest
    refine ⟨(t, two p) :: ks, by rw [List.map_cons, e1]; rfl, by rw [List.map_cons, e2]; rfl, fun q hq => ?_⟩
    rcases List.mem_cons.mp hq with rfl | hq
    · exact r
    · exact all q hq
section
variable {P : Program} {w : World} {K : PySem.W.Frag} {mg : Str → Option Value} {base : Heap} {ca : Str → Addr}
/-! ### is_map -/
def sp_is_map (K : PySem.W.Frag) : Sp := fun vs H Q _ => ∃ (vc : V) (dc : PyData), vs = [vc] ∧ Dp K H vc dc ∧ ∀ H', Same H H' → Q (.bl (mapErr dc).isNone) H'
/-! ### free_fits -/
def freeD (C : Chart) : PyData → Bool
  | .tuple ds => match natsL ds with
    | some l => lotOk C.n (.tuple ds) && !l.any (fun p => decide (p ∈ C.wished))
    | none => false
  | _ => false
def sp_free_fits (K : PySem.W.Frag) : Sp := fun vs H Q _ => ∃ (c : Addr) (C : Chart) (v : V) (d : PyData), vs = [.ref c, v] ∧ IsChart K H c C ∧ C.Ok ∧ Dp K H v d ∧ ∀ H', Same H H' → Q (.bl (freeD C d)) H'
/-! ### way_fits -/
theorem ways_no {C : Chart} {S : List Nat} {d : PyData} (h : isTup d = false) : wayD C S d = false := by
  cases d <;> first | rfl | cases h
theorem places_all {n : Nat} : ∀ {ds : List PyData}, (ds.map (rngD n)).all id = true → ∃ l : List Nat, ds = l.map nD ∧ ∀ x ∈ l, x < n
  | [], _ => ⟨[], rfl, fun _ h => nomatch h⟩
  | d :: ds, h => by
    rw [List.map_cons, List.all_cons, Bool.and_eq_true] at h
    obtain ⟨i, rfl, hi⟩ := rngD_is (show rngD n d = true from h.1)
    obtain ⟨l, rfl, hl⟩ := places_all h.2
    exact ⟨i :: l, rfl, fun x hx => (List.mem_cons.mp hx).elim (fun e => e ▸ hi) (hl x)⟩
theorem places_map {n : Nat} {l : List Nat} (h : ∀ x ∈ l, x < n) : ((l.map nD).map (rngD n)).all id = true := by
  rw [List.all_map, List.all_map, List.all_eq_true]
  intro x hx
  exact rngD_nat (h x hx)
theorem way_short {C : Chart} {S : List Nat} {ds : List PyData} (h : ds.length < 2) : wayD C S (.tuple ds) = false := by
  unfold wayD
  simp only
  cases e : natsL ds with
  | none => rfl
  | some l =>
    have el := natsL_some e
    rw [el, List.length_map] at h
    simp only
    unfold wayLB
    rw [decide_eq_false (by omega)]
    rfl
theorem way_off {C : Chart} (ok : C.Ok) {S : List Nat} {ds : List PyData} (h : (ds.map (rngD C.n)).all id = false) : wayD C S (.tuple ds) = false := by
  unfold wayD
  simp only
  cases e : natsL ds with
  | none => rfl
  | some l =>
    have el := natsL_some e
    simp only
    cases e2 : wayLB C S l with
    | false => rfl
    | true =>
      rw [el, places_map (wayLB_lt ok e2)] at h
      cases h
theorem way_nats {C : Chart} {S l : List Nat} : wayD C S (.tuple (l.map nD)) = wayLB C S l := by
  unfold wayD
  simp only
  rw [natsL_map]
def sp_way_fits (K : PySem.W.Frag) : Sp := fun vs H Q _ => ∃ (c lo : Addr) (C : Chart) (S : List Nat) (v : V) (d : PyData), vs = [.ref c, .ref lo, v] ∧ IsChart K H c C ∧ C.Ok ∧ C.roads.length < 64 ∧ SqT K H lo (S.map vN) ∧ Dp K H v d ∧ Fine d ∧ ∀ H', Same H H' → Q (.bl (wayD C S d)) H'
end
end Ft

set_option Elab.async false
set_option linter.all false
set_option maxRecDepth 100000
set_option maxHeartbeats 8000000
namespace Ft
open PySem PySem.Spec PyProof.Rows L2
theorem shows_bool (b : Bool) : Shows (.bool b) := shows_tame rfl (by simp [nodes]) (by simp [PyData.depth])
theorem shows_non : Shows .none := shows_tame rfl (by simp [nodes]) (by simp [PyData.depth])
/-- what is due of missed -/
def DueIs (C : Chart) (U S : List Nat) : Option (List Nat) → Prop
  | none => ∀ L, Left C.n C.roads C.wished U L → ¬ Starts C.roads S L
  | some l => ∀ L, Left C.n C.roads C.wished U L → Starts C.roads S L ∧ ∀ wk, Best C.roads S L wk → wk = l
def DueV (K : PySem.W.Frag) (H : Hp) (v : V) : Option (List Nat) → Prop
  | none => v = .non
  | some l => ∃ a, v = .ref a ∧ SqT K H a (l.map vN)
theorem DueV.same {K : PySem.W.Frag} {H H' : Hp} {v : V} {o : Option (List Nat)} (s : Same H H') (h : DueV K H v o) : DueV K H' v o := by
  cases o with
  | none => exact h
  | some l =>
    obtain ⟨a, e, q⟩ := h
    exact ⟨a, e, Same.sqT s q⟩
theorem iN_inj5 : ∀ {l m : List Nat}, iN l = iN m → l = m
  | [], [], _ => rfl
  | [], _ :: _, h => by cases h
  | _ :: _, [], h => by cases h
  | a :: l, b :: m, h => by
    have h' : ((a : Int) :: iN l) = ((b : Int) :: iN m) := h
    injection h' with h1 h2
    rw [iN_inj5 h2, Int.ofNat.inj h1]
theorem best_lt {C : Chart} {U S : List Nat} {L : List (Nat × Nat)} (ok : C.Ok) (lf : Left C.n C.roads C.wished U L) (inS : ∀ x ∈ S, x < C.n) {wk : List Nat} (h : Best C.roads S L wk) : (∀ x ∈ wk, x < 64) ∧ wk.length ≤ 64 := by
  have n60 := ok.n60
  obtain ⟨k, a, l, rfl, ha, ⟨b, hab, hbk⟩, least, ld⟩ := h
  obtain ⟨f1, f2, f3, f4, f5⟩ := leads_facts lf ld (by omega)
  have hl : ∀ x ∈ l, x < C.n := fun x hx => by
    obtain ⟨j, _, hj⟩ := f3 x hx
    exact (lf.lt _ hj).1
  refine ⟨fun x hx => ?_, ?_⟩
  · rcases List.mem_cons.mp hx with e | hx
    · have := inS a ha
      omega
    · have := hl x hx
      omega
  · rw [List.length_cons]
    have := len_of_lt l C.n f4 hl
    omega
section
variable {P : Program} {w : World} {K : PySem.W.Frag} {mg : Str → Option Value} {base : Heap} {ca : Str → Addr}
/-! ### _law_told -/
def sp_law_told (K : PySem.W.Frag) : Sp := fun vs H Q _ => ∃ (c tr lo : Addr) (C : Chart) (U S : List Nat) (v : V) (o : Option (List Nat)), vs = [.ref c, .ref tr, .ref lo, v] ∧ IsChart K H c C ∧ C.Ok ∧ SqT K H tr (U.map vN) ∧ (∀ x ∈ U, x < C.n) ∧ U.Pairwise (· < ·) ∧ SqT K H lo (S.map vN) ∧ (∀ x ∈ S, x < C.n) ∧ S.Pairwise (· < ·) ∧
  DueV K H v o ∧ DueIs C U S o ∧ ∀ H', Same H H' → Q (.bl true) H'
theorem cal_law_told (T : Txt mg) (D : Def K mg "_law_told" s_law_told) (v_cuts : Cal P w K mg base 7 "cuts" (sp_cuts K)) (v_missed : Cal P w K mg base 6 "missed" (sp_missed K)) : CalG P w K mg base 8 "_law_told" (sp_law_told K) := by
  refine calG_of D sc_law_told (fun _ _ _ _ _ _ us hl => match us, hl with | [_, _, _, _], _ => rfl) (fun vs H Q E h => ?_) (fun f cdv A outer s H vs Q E hg hr h => ?_)
  · obtain ⟨c, tr, lo, C, U, S, v, o, rfl, _⟩ := h
    rfl
  · obtain ⟨c, tr, lo, C, U, S, v, o, rfl, hC, ok, hT, inU, upU, hS, inS, upS, hv, due, q⟩ := h
    have hU := hr.units
    have hG := hg
    refine ⟨_, (pss_cons (ps_if (pt_cmpR op_ne (pe_callB (show CallR _ _ (rRepr K) from cr_repr hG hU) (by rfl) T.repr (by decide +kernel) (pa_cons (pe_c v_cuts hr (by decide) (by rfl) (pa_cons (pv 0) (pa_cons (pv 1) (pa_cons (pv 2) pa_nil)))) pa_nil)) (pe_callB (show CallR _ _ (rRepr K) from cr_repr hG hU) (by rfl) T.repr (by decide +kernel) (pa_cons (pe_cmpR op_isN (pv 3) pe_non (nomark _)) pa_nil)) (nomark _)) (pss_one (ps_ret pe_bl)) pss_nil)
      (pss_one (ps_ret (pe_cmpR op_eq (pe_callB (show CallR _ _ (rRepr K) from cr_repr hG hU) (by rfl) T.repr (by decide +kernel) (pa_cons (pe_c v_missed hr (by decide) (by rfl) (pa_cons (pv 0) (pa_cons (pv 1) (pa_cons (pv 2) pa_nil)))) pa_nil)) (pe_callB (show CallR _ _ (rRepr K) from cr_repr hG hU) (by rfl) T.repr (by decide +kernel) (pa_cons (pv 3) pa_nil)) (nomark _))))), ?_⟩
    refine ⟨_, rfl, _, rfl, _, rfl, c, tr, lo, C, U, S, rfl, hC, ok, hT, inU, upU, hS, inS, upS, fun b L H1 s1 lf hb => ?_⟩
    refine ⟨_, .bool b, rfl, .bl b, shows_bool b, ?_⟩
    have e1 : b = decide (v = V.non) := by
      cases o with
      | none =>
        have := hb.mpr (due L lf)
        have e : v = .non := hv
        rw [this, e]
        simp
      | some l =>
        obtain ⟨a, e, _⟩ := hv
        subst e
        cases b with
        | false => simp
        | true => exact absurd (due L lf).1 (hb.mp rfl)
    refine ⟨_, rfl, rfl, _, .bool (decide (v = V.non)), rfl, .bl _, shows_bool _, rfl, _, rfl, ite_any (fun h => absurd h (by rw [e1]; simp)) (fun _ => ?_)⟩
    refine ⟨_, rfl, _, rfl, _, rfl, c, tr, lo, C, U, S, rfl, hC.same s1, ok, Same.sqT s1 hT, inU, upU, Same.sqT s1 hS, inS, upS, fun v2 L2 H2 s2 lf2 h1 h2 => ?_⟩
    have s12 := s1.trans s2
    have fin : ∀ {z : Str}, (Q (.bl (decide (V.str z = V.str z))) H2) := fun {z} => by
      have e : decide (V.str z = V.str z) = true := by simp
      rw [e]
      exact q _ s12
    cases o with
    | none =>
      have ev := h1 (due L2 lf2)
      have e : v = .non := hv
      subst ev e
      exact ⟨_, .none, rfl, .non, shows_non, _, rfl, _, .none, rfl, .non, shows_non, rfl, fin⟩
    | some l =>
      obtain ⟨a, e, ha⟩ := hv
      obtain ⟨st, bst⟩ := due L2 lf2
      obtain ⟨t, wk, ev, ht, hbest⟩ := h2 st
      have := bst wk hbest
      obtain ⟨z1, z2⟩ := best_lt ok lf2 inS hbest
      subst this e ev
      exact ⟨_, encL wk, rfl, dp_row ht, shows_row z1 z2, _, rfl, _, encL wk, rfl, dp_row (Same.sqT s12 ha), shows_row z1 z2, rfl, fin⟩
end
end Ft

set_option Elab.async false
set_option linter.all false
set_option maxRecDepth 100000
set_option maxHeartbeats 8000000
namespace Ft
open PySem PySem.Spec PyProof.Rows L2
/-! ### what the levels' least walk is -/
theorem label_path {n : Nat} {rs : List (Nat × Nat)} {ws T : List Nat} {L : List (Nat × Nat)} (lf : Left n rs ws T L) : ∀ {j b : Nat}, (b, j) ∈ L → ∃ l, l.length = j ∧ Hops rs b l ∧ (∀ x ∈ l, ∃ i, i < j ∧ (x, i) ∈ L) ∧ (b :: l).Nodup ∧ l.getLastD b ∈ ws
  | 0, b, h => ⟨[], rfl, .nil _, (fun _ h => nomatch h), by simp, ((lf.zero b).mp h).1⟩
  | j + 1, b, h => by
    obtain ⟨nw, c, h1, h2⟩ := lf.succ b j h
    obtain ⟨l, a1, a2, a3, a4, a5⟩ := label_path lf h2
    have all : ∀ x ∈ c :: l, ∃ i, i < j + 1 ∧ (x, i) ∈ L := fun x hx => by
      rcases List.mem_cons.mp hx with e | hx
      · exact ⟨j, by omega, e ▸ h2⟩
      · obtain ⟨i, i1, i2⟩ := a3 x hx
        exact ⟨i, by omega, i2⟩
    refine ⟨c :: l, by rw [List.length_cons, a1], .cons h1 a2, all, List.nodup_cons.mpr ⟨fun m => ?_, a4⟩, by rw [List.getLastD_cons]; exact a5⟩
    obtain ⟨i, i1, i2⟩ := all b m
    have := lf.one h i2
    omega
theorem starts_ended {n : Nat} {rs : List (Nat × Nat)} {ws T S : List Nat} {L : List (Nat × Nat)} (lf : Left n rs ws T L) (h : Starts rs S L) : ∃ j, j < n ∧ endW ws (lvW rs T S (j + 1)) ≠ [] := by
  obtain ⟨a, ha, b, j, h1, h2⟩ := h
  obtain ⟨l, a1, a2, a3, a4, a5⟩ := label_path lf h2
  refine ⟨j, lf.many j b h2, fun e => ?_⟩
  have : (a :: b :: l) ∈ endW ws (lvW rs T S (j + 1)) := by
    refine endW_mem.mpr ⟨lvW_mem.mpr ⟨a, b :: l, rfl, ha, by rw [List.length_cons, a1], .cons h1 a2, fun x hx => ?_, a4⟩, by rw [List.getLastD_cons]; exact a5⟩
    rcases List.mem_cons.mp hx with e | hx
    · rw [e]
      exact (lf.lt _ h2).2
    · obtain ⟨i, _, i2⟩ := a3 x hx
      exact (lf.lt _ i2).2
  rw [e] at this
  cases this
theorem due_none {C : Chart} {U S : List Nat} (h : ∀ j, j < C.n + 1 → endW C.wished (lvW C.roads U S (j + 1)) = []) : DueIs C U S none := fun L lf st => by
  obtain ⟨j, h1, h2⟩ := starts_ended lf st
  exact h2 (h j (by omega))
theorem due_some {C : Chart} {U S r : List Nat} {k : Nat} (h : ∀ j, j < k → endW C.wished (lvW C.roads U S (j + 1)) = []) (hr : r ∈ endW C.wished (lvW C.roads U S (k + 1))) (least : ∀ w ∈ endW C.wished (lvW C.roads U S (k + 1)), iN r ≤ iN w) : DueIs C U S (some r) := fun L lf => by
  obtain ⟨a, ha, b, j, h1, h2, _⟩ := ended_starts lf hr
  refine ⟨⟨a, ha, b, j, h1, h2⟩, fun wk hb => ?_⟩
  obtain ⟨k', k1, k2, k3, k4⟩ := best_ended lf hb
  have e : k' = k := by
    rcases Nat.lt_trichotomy k' k with lt | e | gt
    · rw [h k' lt] at k3
      cases k3
    · exact e
    · rw [k2 k gt] at hr
      cases hr
  subst e
  exact iN_inj5 (List.le_antisymm (k4 r hr) (least wk k3))
/-! ### walks as they lie -/
abbrev WRow := Addr × List Nat
def WalksAt (K : PySem.W.Frag) (H : Hp) (R : List WRow) : Prop := ∀ p ∈ R, SqT K H p.1 (p.2.map vN)
def refsW (R : List WRow) : List V := R.map fun p => V.ref p.1
theorem WalksAt.same {K : PySem.W.Frag} {H H' : Hp} {R : List WRow} (s : Same H H') (h : WalksAt K H R) : WalksAt K H' R := fun p hp => Same.sqT s (h p hp)
theorem WalksAt.keep {K : PySem.W.Frag} {ex : List Addr} {H H' : Hp} {R : List WRow} (k : Kp ex H H') (l : Lists ex H) (h : WalksAt K H R) : WalksAt K H' R := fun p hp => k.sqT l (h p hp)
theorem WalksAt.add {K : PySem.W.Frag} {H : Hp} {R : List WRow} {p : WRow} (h : WalksAt K H R) (hp : SqT K H p.1 (p.2.map vN)) : WalksAt K H (R ++ [p]) := fun q hq => by
  rcases List.mem_append.mp hq with hq | hq
  · exact h q hq
  · rw [List.mem_singleton.mp hq]
    exact hp
theorem refsW_len (R : List WRow) : (refsW R).length = R.length := List.length_map ..
theorem refsW_add (R : List WRow) (p : WRow) : refsW (R ++ [p]) = refsW R ++ [V.ref p.1] := by
  unfold refsW
  rw [List.map_append]
  rfl
theorem len_of_snd {R : List WRow} {W : List (List Nat)} (h : R.map (·.2) = W) : R.length = W.length := by
  rw [← h, List.length_map]
theorem walks_dp {K : PySem.W.Frag} {H : Hp} : ∀ {R : List WRow}, WalksAt K H R → DpAll K H (refsW R) (R.map fun p => lotD p.2)
  | [], _ => .nil
  | p :: R, h => .cons (dp_lot (h p List.mem_cons_self)) (walks_dp fun q hq => h q (List.mem_cons_of_mem _ hq))
theorem shaped_lot (l : List Nat) : (lotD l).canLay0 = true ∧ (lotD l).depth ≤ 1 := by
  constructor
  · show PyData.canLay0 (.tuple (l.map nD)) = true
    simp only [PyData.canLay0]
    refine can_all.mpr fun e he => ?_
    obtain ⟨x, _, rfl⟩ := List.mem_map.mp he
    rfl
  · show PyData.depth (.tuple (l.map nD)) ≤ 1
    simp only [PyData.depth]
    have := depth_all (n := 0) (ds := l.map nD) fun e he => by
      obtain ⟨x, _, rfl⟩ := List.mem_map.mp he
      exact Nat.le_refl _
    omega
theorem shaped_walks (R : List WRow) : SeqAt.shaped (.list (R.map fun p => lotD p.2)) = true := by
  refine shaped_iff.mpr ⟨?_, ?_⟩
  · simp only [PyData.canLay0]
    refine can_all.mpr fun e he => ?_
    obtain ⟨x, _, rfl⟩ := List.mem_map.mp he
    exact (shaped_lot _).1
  · simp only [PyData.depth]
    have := depth_all (n := 1) (ds := R.map fun p => lotD p.2) fun e he => by
      obtain ⟨x, _, rfl⟩ := List.mem_map.mp he
      exact (shaped_lot _).2
    omega
theorem take_flat {α β : Type} {f : α → List β} {l : List α} {i : Nat} {x : α} (h : l[i]? = some x) : (l.take (i + 1)).flatMap f = (l.take i).flatMap f ++ f x := by
  rw [take_more h, List.flatMap_append, List.flatMap_cons, List.flatMap_nil, List.append_nil]
theorem take_filter {α : Type} {f : α → Bool} {l : List α} {i : Nat} {x : α} (h : l[i]? = some x) : (l.take (i + 1)).filter f = (l.take i).filter f ++ (if f x = true then [x] else []) := by
  rw [take_more h, List.filter_append, List.filter_cons, List.filter_nil]
theorem take_len_flat {α β : Type} {f : α → List β} {l : List α} {i : Nat} : ((l.take i).flatMap f).length ≤ (l.flatMap f).length := by
  conv => rhs; rw [← List.take_append_drop i l]
  rw [List.flatMap_append, List.length_append]
  omega
def lastIn (ws : List Nat) (w : List Nat) : Bool := match w.getLast? with
  | some x => decide (x ∈ ws)
  | none => false
/-- a walk with one more road that was looked at -/
def extJ (rs : List (Nat × Nat)) (T w : List Nat) (j : Nat) : List (List Nat) := (extR (rs.take j) T w).map fun p => w ++ [p.2]
theorem extJ_more {rs : List (Nat × Nat)} {T w : List Nat} {j : Nat} {p : Nat × Nat} (h : rs[j]? = some p) : extJ rs T w (j + 1) = extJ rs T w j ++ (if (decide (some p.1 = w.getLast?) && (!decide (p.2 ∈ T) && !decide (p.2 ∈ w.tail))) = true then [w ++ [p.2]] else []) := by
  unfold extJ extR
  rw [take_filter h, List.map_append]
  congr 1
  split <;> rfl
theorem extJ_all {rs : List (Nat × Nat)} {T w : List Nat} : extJ rs T w rs.length = extW rs T w := by
  unfold extJ extW
  rw [List.take_length]
theorem extJ_len {rs : List (Nat × Nat)} {T w : List Nat} {j : Nat} : (extJ rs T w j).length ≤ 240 + rs.length := by
  unfold extJ extR
  rw [List.length_map]
  have h1 := List.length_filter_le (fun p : Nat × Nat => decide (some p.1 = w.getLast?) && (!decide (p.2 ∈ T) && !decide (p.2 ∈ w.tail))) (rs.take j)
  have h2 : (rs.take j).length ≤ rs.length := by rw [List.length_take]; exact Nat.min_le_right ..
  omega
theorem kp_same {H H' : Hp} {D : Addr} (hD : H D = none) (k : Kp [D] H H') : Same H H' := fun b o e => k b o (fun m => by rw [List.mem_singleton.mp m, hD] at e; cases e) e
theorem same_kp {H H1 H2 : Hp} {D : Addr} (hD : H D = none) (s : Same H H1) (k : Kp [D] H1 H2) : Same H H2 := fun b o e => k b o (fun m => by rw [List.mem_singleton.mp m, hD] at e; cases e) (s b o e)
theorem kp_put {H H' : Hp} {D : Addr} {o : HO} (k : Kp [D] H H') : Kp [D] H (upd H' D o) := fun z u nz ez => by
  rw [upd_ne (fun y => nz (by rw [y]; simp))]
  exact k z u nz ez
theorem lists_one {H : Hp} {D : Addr} {xs : List V} (h : H D = some (.lst xs)) : Lists [D] H := fun b hb => by
  rw [List.mem_singleton.mp hb]
  exact ⟨_, h, (fun _ z => nomatch z), (fun _ _ z => nomatch z)⟩
theorem kp_lst {H : Hp} {D : Addr} {o : HO} : Kp [D] H (upd H D o) := fun z u nz ez => by
  rw [upd_ne (fun y => nz (by rw [y]; simp))]
  exact ez
section
variable {P : Program} {w : World} {K : PySem.W.Frag} {mg : Str → Option Value} {base : Heap} {ca : Str → Addr}
/-! ### _law_listed -/
def sp_law_listed (K : PySem.W.Frag) : Sp := fun vs H Q _ => ∃ (c tr lo : Addr) (C : Chart) (U S : List Nat), vs = [.ref c, .ref tr, .ref lo] ∧ IsChart K H c C ∧ C.Ok ∧ C.n ≤ 6 ∧ SqT K H tr (U.map vN) ∧ SqT K H lo (S.map vN) ∧ (∀ x ∈ S, x < C.n) ∧ S.Pairwise (· < ·) ∧ ∀ v o H', Same H H' → DueV K H' v o → DueIs C U S o → Q v H'
theorem cal_law_listed (T : Txt mg) (D : Def K mg "_law_listed" s_law_listed) : Cal P w K mg base 2 "_law_listed" (sp_law_listed K) := by
  refine cal_of D sc_law_listed (fun _ _ _ _ _ _ us hl => match us, hl with | [_, _, _], _ => rfl) (fun vs H Q E h => ?_) (fun f cdv A outer s H vs Q E hr h => ?_)
  · obtain ⟨c, tr, lo, C, U, S, rfl, _⟩ := h
    rfl
  · obtain ⟨c, tr, lo, C, U, S, rfl, ⟨r, wd, ts, hC⟩, ok, n6, hT, hS, inS, upS, q⟩ := h
    have n60 := ok.n60
    have m240 := ok.many
    have hu := hu_of hr
    have hU := hr.units
    have s6 : S.length ≤ 6 := by
      have := up_len upS inS
      omega
    have lvl : ∀ k, k ≤ 7 → (lvW C.roads U S k).length ≤ 1679616 := fun k hk => by
      have h1 := lvW_len (T := U) ok.upR ok.inR n6 s6 k
      have h2 : 6 ^ (k + 1) ≤ 6 ^ 8 := Nat.pow_le_pow_right (by decide) (by omega)
      have h3 : 6 ^ 8 = 1679616 := by decide
      omega
    refine ⟨_, (pss_cons (ps_setLc (i := 3) (own := [("p", 10)]) rfl sc_law_listed.nd rfl rfl (sw_true rfl rfl rfl (by decide +kernel)) (show PI _ _ _ (iTup K _) from pi_tup (pv 2)) (blkOk_by (N := ["chart", "traps", "lot", "walks", "turn", "longer", "walk", "a", "b", "ended", "p"]) (sc := L2.defScope s_law_listed) (by decide +kernel)) (fun _ _ _ _ _ => (pg_name (i := 10) sc_law_listed.nd rfl (Or.inl rfl))) (fun _ _ _ _ _ => pts_nil) (fun _ _ _ _ _ => (pe_tup (pa_cons (pv 10) pa_nil))))
      (pss_cons (ps_for PassesOwn.never rfl (pi_range1 (by rfl) T.range (pa_cons (pe_op op_add (pe_ix (show IxR _ (rIxT K) from ix_tup) (pv 0) pe_int (fun _ _ => rfl)) pe_int) pa_nil)) (pg_name (i := 4) sc_law_listed.nd rfl (Or.inl rfl)) (pss_cons (ps_set (i := 5) sc_law_listed.nd rfl (Or.inl rfl) (pe_lst pa_nil))
        (pss_cons (ps_for PassesOwn.never rfl (show PI _ _ _ (iList K _) from pi_list (pv 3)) (pg_name (i := 6) sc_law_listed.nd rfl (Or.inl rfl)) (pss_one (ps_for PassesOwn.never rfl (show PI _ _ _ (iTup K _) from pi_tup (pe_ix (show IxR _ (rIxT K) from ix_tup) (pv 0) pe_int (fun _ _ => rfl))) (show PG _ _ (gTup K 2 _) from pg_tup (by rfl) (pgs_cons (pg_name (i := 7) sc_law_listed.nd rfl (Or.inl rfl)) (pgs_cons (pg_name (i := 8) sc_law_listed.nd rfl (Or.inl rfl)) pgs_nil))) (pss_one (ps_if (PW.pt (pw_and (pt_cmpR op_eq (pv 7) (pe_ix (show IxR _ (rIxT K) from ix_tup) (pv 6) (pe_un un_neg pe_int) (fun _ _ => rfl)) (nomark _)) (pw_and (pt_cmpR (show OpR _ _ (rIn K true) from op_notIn_seq) (pv 8) (pv 1) (by rfl)) (pw_and1 (pt_cmpR (show OpR _ _ (rIn K true) from op_notIn_seq) (pv 8) (pe_slice (show SlR _ (rSlA K) from sl_tupA) (pv 6) (po_some pe_int) po_none) (by rfl)))))) (pss_one (ps_expr (pe_bm PySem.F.plainAttrs_list PySem.F.slot_list_append PySem.F.type_list_append mt_append (pv 5) (pa_cons (pe_op (show OpR _ _ (rCatA K) from op_catA) (pv 6) (pe_tup (pa_cons (pv 8) pa_nil))) pa_nil)))) pss_nil)))))
        (pss_cons (ps_setLc (i := 9) (own := [("walk", 6)]) rfl sc_law_listed.nd rfl rfl (sw_true rfl rfl rfl (by decide +kernel)) (show PI _ _ _ (iList K _) from pi_list (pv 5)) (blkOk_by (N := ["chart", "traps", "lot", "walks", "turn", "longer", "walk", "a", "b", "ended", "p"]) (sc := L2.defScope s_law_listed) (by decide +kernel)) (fun _ _ _ _ _ => (pg_name (i := 6) sc_law_listed.nd rfl (Or.inl rfl))) (fun _ _ _ _ _ => pts_one (pt_cmpR (show OpR _ _ (rIn K false) from op_in_seq) (pe_ix (show IxR _ (rIxT K) from ix_tup) (pv 6) (pe_un un_neg pe_int) (fun _ _ => rfl)) (pe_ix (show IxR _ (rIxT K) from ix_tup) (pv 0) pe_int (fun _ _ => rfl)) (by rfl))) (fun _ _ _ _ _ => (pv 6)))
        (pss_cons (ps_if (pt_cmpR (show OpR _ _ (rNeD K) from op_neD hU) (pv 9) (pe_lst pa_nil) (nomark _)) (pss_one (ps_ret (pe_callB (show CallR _ _ (rMinR K) from cr_minR rfl hU) (by rfl) T.min (by decide +kernel) (pa_cons (pv 9) pa_nil)))) pss_nil)
        (pss_one (ps_set (i := 3) sc_law_listed.nd rfl (Or.inl rfl) (pv 5))))))))
      (pss_one (ps_ret pe_non)))), ?_⟩
    refine ⟨_, rfl, lo, rfl, ⟨_, hS⟩, fun w0 hw0 => ?_⟩
    refine lc_tup (K := K) (xs := S.map vN) (fun i H' => ∃ R : List WRow, Kp [w0] H H' ∧ H' w0 = some (.lst (refsW R)) ∧ WalksAt K H' R ∧ R.map (·.2) = (S.take i).map fun p => [p])
      ⟨[], (fun b o nb e' => by rw [upd_ne (ne_of_none e' hw0)]; exact e'), upd_same, (fun _ h => nomatch h), by simp⟩ (fun i H' _ ⟨_, k, _⟩ => Same.sqT (kp_same hw0 k) hS) ?_ ?_
    · rintro i x H1 hx ⟨R, k1, hW1, wR, eR⟩
      obtain ⟨p, hp, rfl⟩ := get_map hx
      have iS : i < S.length := (List.getElem?_eq_some_iff.mp hp).1
      have lR := len_of_snd eR
      rw [List.length_map, List.length_take] at lR
      refine ⟨rfl, ?_⟩
      refine ⟨_, rfl, by show 1 ≤ sizeLine; decide, fun t ht => ?_⟩
      have s2 : Same H1 (upd H1 t (.tup [vN p])) := same_upd ht
      have hT2 : (upd H1 t (.tup [vN p])) t = some (.tup [vN p]) := upd_same
      generalize upd H1 t (.tup [vN p]) = H2 at s2 hT2
      have hW2 := s2 _ _ hW1
      refine ⟨_, hW2, by rw [refsW_len, sizeLine_eq]; omega, R ++ [(t, [p])], kp_put (k1.trans (Same.kp s2)), by rw [upd_same, refsW_add], ?_, ?_⟩
      · exact WalksAt.keep kp_lst (lists_one hW2) ((wR.same s2).add (.inl (.inl hT2)))
      · rw [List.map_append, eR, take_more hp, List.map_append]
        rfl
    rintro H1 ⟨R0, k1, hW1, wR0, eR0⟩
    rw [List.length_map, List.take_length] at eR0
    have s1 := kp_same hw0 k1
    have hC1 := hC.same s1
    have hT1 := Same.sqT s1 hT
    refine ⟨_, rfl, _, _, _, _, rfl, rfl, hC1.top, rfl, _, _, rfl, rfl, _, rfl, by show -2 ^ 62 ≤ (C.n : Int) + 1; omega, by show (C.n : Int) + 1 < 2 ^ 62; omega, for_range (lo := 0) (n := ((C.n : Int) + 1).toNat) (fun i σ H' => ∃ (wa : Addr) (R : List WRow) (v4 v5 v6 v7 v8 v9 v10 : Option V), σ = [some (.ref c), some (.ref tr), some (.ref lo), some (.ref wa), v4, v5, v6, v7, v8, v9, v10] ∧ Same H1 H' ∧
      H' wa = some (.lst (refsW R)) ∧ WalksAt K H' R ∧ R.map (·.2) = lvW C.roads U S i ∧ ∀ j, j < i → endW C.wished (lvW C.roads U S (j + 1)) = []) ?_ ?_ ?_⟩
    · exact ⟨w0, R0, _, _, _, _, _, _, _, rfl, Same.rfl' _, hW1, wR0, eR0, fun j h => absurd h (Nat.not_lt_zero _)⟩
    · rintro i σ H2 hi ⟨wa, R, v4, v5, v6, v7, v8, v9, v10, rfl, s2, hW2, wR, eR, low⟩
      have i7 : i < 7 := by omega
      have hC2 := hC1.same s2
      have hT2 := Same.sqT s2 hT1
      have lR := len_of_snd eR
      have lR7 := lvl i (by omega)
      have lX7 := lvl (i + 1) (by omega)
      refine ⟨Nat.zero_le _, fun g hg => ?_⟩
      refine at_name ?_
      dsimp only
      refine at_seq ?_
      have s3 : Same H2 (upd H2 g (.lst [])) := same_upd hg
      have hG3 : (upd H2 g (.lst [])) g = some (.lst []) := upd_same
      generalize upd H2 g (.lst []) = H3 at s3 hG3
      have hW3 := s3 _ _ hW2
      have nwg : wa ≠ g := ne_of_none hW2 hg
      have hC3 := hC2.same s3
      have hT3 := Same.sqT s3 hT2
      have wR3 := wR.same s3
      have l3 := lists_one hG3
      have hgH1 : H1 g = none := s2.free hg
      refine ⟨_, rfl, wa, rfl, ⟨_, .inl (.inl hW3)⟩, for_list (K := K) (xs := refsW R) (fun m σ H' => ∃ (v6 v7 v8 : Option V) (N : List WRow), σ = [some (.ref c), some (.ref tr), some (.ref lo), some (.ref wa), some (.int (0 + (i : Nat))), some (.ref g), v6, v7, v8, v9, v10] ∧ Kp [g] H3 H' ∧ H' g = some (.lst (refsW N)) ∧ WalksAt K H' N ∧ N.map (·.2) = ((lvW C.roads U S i).take m).flatMap (extW C.roads U))
        ⟨_, _, _, [], rfl, Kp.refl _ _, hG3, (fun _ h => nomatch h), by simp⟩ (fun m σ H' _ ⟨_, _, _, _, _, k, _⟩ => .inl (.inl (k _ _ (by simp [nwg]) hW3))) ?_ ?_⟩
      · rintro m x σ H4 hx ⟨v6, v7, v8, N, rfl, k4, hG4, wN, eN⟩
        obtain ⟨p, hp, rfl⟩ := get_map hx
        have hpl : (lvW C.roads U S i)[m]? = some p.2 := by rw [← eR, List.getElem?_map, hp]; rfl
        have flen : (((lvW C.roads U S i).take m).flatMap (extW C.roads U)).length ≤ 1679616 := Nat.le_trans take_len_flat lX7
        obtain ⟨y, hy⟩ : ∃ y, p.2.getLast? = some y := by
          obtain ⟨a0, l0, e0, _⟩ := lvW_mem.mp (List.mem_of_getElem? hpl)
          exact ⟨_, by rw [e0]; exact last_cons _ _⟩
        have hp4 : SqT K H4 p.1 (p.2.map vN) := k4.sqT l3 (wR3 p (List.mem_of_getElem? hp))
        have hC4 : ChartAt K H4 c C r wd ts := hC3.keep k4 l3
        have l4 := lists_one hG4
        have plen : p.2.length ≤ 8 := by
          obtain ⟨a0, l0, e0, _, e1, _⟩ := lvW_mem.mp (List.mem_of_getElem? hpl)
          rw [e0, List.length_cons, e1]
          omega
        refine at_name ?_
        refine ⟨_, rfl, _, _, _, _, rfl, rfl, hC4.top, rfl, r, rfl, ⟨_, hC4.row⟩, for_tup (K := K) (xs := ts.map V.ref) (fun j σ H' => ∃ (v7 v8 : Option V) (N2 : List WRow), σ = [some (.ref c), some (.ref tr), some (.ref lo), some (.ref wa), some (.int (0 + (i : Nat))), some (.ref g), some (.ref p.1), v7, v8, v9, v10] ∧ Kp [g] H4 H' ∧ H' g = some (.lst (refsW N2)) ∧ WalksAt K H' N2 ∧ N2.map (·.2) = ((lvW C.roads U S i).take m).flatMap (extW C.roads U) ++ extJ C.roads U p.2 j)
          ⟨_, _, N, rfl, Kp.refl _ _, hG4, wN, by rw [eN]; unfold extJ extR; simp⟩ (fun j σ H' _ ⟨_, _, _, _, k, _⟩ => k.sqT l4 hC4.row) ?_ ?_⟩
        · rintro j x σ H5 hx ⟨v7, v8, N2, rfl, k5, hG5, wN2, eN2⟩
          obtain ⟨t, ht, rfl⟩ := get_map hx
          obtain ⟨q0, hq0, pt⟩ := paired_getL hC4.prs ht
          have pt5 := k5.sqT l4 pt
          have hp5 := k5.sqT l4 hp4
          have hT5 : SqT K H5 tr (U.map vN) := k5.sqT l4 (k4.sqT l3 hT3)
          have lN2 := len_of_snd eN2
          rw [List.length_append] at lN2
          have xl := extJ_len (rs := C.roads) (T := U) (w := p.2) (j := j)
          refine ⟨t, _, rfl, pt5, rfl, _, _, rfl, _, _, rfl, rfl, ?_⟩
          have skip : ∀ {H6 : Hp}, Same H5 H6 → (decide (some q0.1 = p.2.getLast?) && (!decide (q0.2 ∈ U) && !decide (q0.2 ∈ p.2.tail))) = false → ∃ (v7 v8 : Option V) (N2 : List WRow), [some (V.ref c), some (.ref tr), some (.ref lo), some (.ref wa), some (.int (0 + (i : Nat))), some (.ref g), some (.ref p.1), some (vN q0.1), some (vN q0.2), v9, v10] = [some (V.ref c), some (.ref tr), some (.ref lo), some (.ref wa), some (.int (0 + (i : Nat))), some (.ref g), some (.ref p.1), v7, v8, v9, v10] ∧ Kp [g] H4 H6 ∧ H6 g = some (.lst (refsW N2)) ∧ WalksAt K H6 N2 ∧ N2.map (·.2) = ((lvW C.roads U S i).take m).flatMap (extW C.roads U) ++ extJ C.roads U p.2 (j + 1) := fun {H6} s6 e =>
            ⟨_, _, N2, rfl, k5.trans (Same.kp s6), s6 _ _ hG5, wN2.same s6, by rw [eN2, extJ_more hq0, e]; simp⟩
          refine ⟨_, rfl, _, rfl, _, rfl, p.1, _, _, _, rfl, rfl, hp5, atI_end (v := vN y) (by rw [List.length_map, List.getElem?_map, ← List.getLast?_eq_getElem?, hy]; rfl), rfl, _, rfl, ite_any (fun h1 => ?_) (fun h1 => skip (Same.rfl' _) ?_)⟩
          · have e1 : decide (some q0.1 = p.2.getLast?) = true := by
              have := of_decide_eq_true h1
              rw [hy]
              have z : (q0.1 : Int) = y := V.int.inj this
              have : q0.1 = y := by omega
              rw [this]
              simp
            refine ⟨_, rfl, _, rfl, tr, _, rfl, .inr hT5, rfl, all_vN U, _, rfl, ?_⟩
            show if (!inV (vN q0.2) (U.map vN)) = true then _ else _
            rw [in_vN]
            by_cases h2 : q0.2 ∈ U
            · rw [decide_eq_true h2]
              exact iteF (skip (Same.rfl' _) (by rw [decide_eq_true h2]; simp))
            · rw [decide_eq_false h2]
              refine iteT ?_
              refine ⟨_, rfl, _, rfl, _, rfl, no_part (slA_of hp5 fun u H6 s6 hu => ?_)⟩
              have ed : cutG (p.2.map vN) (some (1 : Int)) none = p.2.tail.map vN := by
                have z : cutG (p.2.map vN) (some (1 : Int)) none = (p.2.map vN).drop 1 := cutG_drop (k := 1)
                rw [z, List.drop_one, List.map_tail]
              rw [ed] at hu
              refine ⟨u, _, rfl, .inr hu, rfl, all_vN _, _, rfl, ?_⟩
              show if (!inV (vN q0.2) (p.2.tail.map vN)) = true then _ else _
              rw [in_vN]
              by_cases h3 : q0.2 ∈ p.2.tail
              · rw [decide_eq_true h3]
                exact iteF (skip s6 (by rw [decide_eq_true h3]; simp))
              · rw [decide_eq_false h3]
                refine iteT ?_
                have hG6 := s6 _ _ hG5
                refine ⟨_, rfl, .inl ⟨rfl, _, .inl (.inl hG6)⟩, _, rfl, _, rfl, by show 1 ≤ sizeLine; decide, fun t1 ht1 => ?_⟩
                have s7 : Same H6 (upd H6 t1 (.tup [vN q0.2])) := same_upd ht1
                have hT7 : (upd H6 t1 (.tup [vN q0.2])) t1 = some (.tup [vN q0.2]) := upd_same
                generalize upd H6 t1 (.tup [vN q0.2]) = H7 at s7 hT7
                refine catA_of (Same.sqT (s6.trans s7) hp5) (.inl (.inl hT7)) (by rw [List.length_map]; show p.2.length + 1 ≤ 1000; omega) fun t2 H8 s8 ht2 => ?_
                have s58 := (s6.trans s7).trans s8
                have hG8 := s58 _ _ hG5
                have eT : p.2.map vN ++ [vN q0.2] = (p.2 ++ [q0.2]).map vN := by rw [List.map_append]; rfl
                rw [eT] at ht2
                refine ⟨g, _, _, rfl, rfl, hG8, by rw [refsW_len, sizeLine_eq]; omega, ?_⟩
                refine ⟨_, _, N2 ++ [(t2, p.2 ++ [q0.2])], rfl, kp_put (k5.trans (Same.kp s58)), by rw [upd_same, refsW_add], WalksAt.keep kp_lst (lists_one hG8) ((wN2.same s58).add ht2), ?_⟩
                rw [List.map_append, eN2, extJ_more hq0, e1, decide_eq_false h2, decide_eq_false h3, List.append_assoc]
                rfl
          · have : ¬ (some q0.1 = p.2.getLast?) := fun e => by
              rw [hy] at e
              have := of_decide_eq_false h1
              exact this (by rw [Option.some.inj e])
            rw [decide_eq_false this]
            rfl
        · rintro σ H5 ⟨v7, v8, N2, rfl, k5, hG5, wN2, eN2⟩
          have le := hC4.prs.length
          rw [List.length_map, le, extJ_all] at eN2
          exact ⟨_, _, _, N2, rfl, k4.trans k5, hG5, wN2, by rw [eN2, take_flat hpl]⟩
      rintro σ H4 ⟨v6, v7, v8, N, rfl, k4, hG4, wN, eN⟩
      rw [refsW_len, lR, List.take_length] at eN
      have eN' : N.map (·.2) = lvW C.roads U S (i + 1) := eN
      have s24 := same_kp hg s3 k4
      have hC4 := hC2.same s24
      have lN := len_of_snd eN'
      refine ⟨_, rfl, g, rfl, ⟨_, .inl (.inl hG4)⟩, fun e he => ?_⟩
      refine lc_list (K := K) (xs := refsW N) (fun j H' => ∃ F : List WRow, Kp [e] H4 H' ∧ H' e = some (.lst (refsW F)) ∧ WalksAt K H' F ∧ F = (N.take j).filter fun p => lastIn C.wished p.2)
        ⟨[], (fun b o nb e' => by rw [upd_ne (ne_of_none e' he)]; exact e'), upd_same, (fun _ h => nomatch h), by simp⟩ (fun j H' _ ⟨_, k, _⟩ => .inl (.inl (kp_same he k _ _ hG4))) ?_ ?_
      · rintro j x H5 hx ⟨F, k5, hE5, wF, eF⟩
        obtain ⟨p, hp, rfl⟩ := get_map hx
        have jl : j < N.length := (List.getElem?_eq_some_iff.mp hp).1
        have s5 := kp_same he k5
        have hC5 := hC4.same s5
        have hp5 := Same.sqT s5 (wN p (List.mem_of_getElem? hp))
        obtain ⟨y, hy⟩ : ∃ y, p.2.getLast? = some y := by
          have : p.2 ∈ lvW C.roads U S (i + 1) := by rw [← eN']; exact List.mem_map.mpr ⟨p, List.mem_of_getElem? hp, rfl⟩
          obtain ⟨a0, l0, e0, _⟩ := lvW_mem.mp this
          exact ⟨_, by rw [e0]; exact last_cons _ _⟩
        have lF : F.length ≤ j := by
          rw [eF]
          have h1 := List.length_filter_le (fun p : WRow => lastIn C.wished p.2) (N.take j)
          rw [List.length_take] at h1
          omega
        refine ⟨rfl, ?_⟩
        refine ⟨_, rfl, _, rfl, p.1, _, _, _, rfl, rfl, hp5, atI_end (v := vN y) (by rw [List.length_map, List.getElem?_map, ← List.getLast?_eq_getElem?, hy]; rfl), _, rfl, _, _, _, _, rfl, rfl, hC5.top, rfl, wd, _, rfl, .inr hC5.wis, rfl, all_vN C.wished, _, rfl, ?_⟩
        show if inV (vN y) (C.wished.map vN) = true then _ else _
        rw [in_vN]
        have lst : lastIn C.wished p.2 = decide (y ∈ C.wished) := by unfold lastIn; rw [hy]
        by_cases h1 : y ∈ C.wished
        · rw [decide_eq_true h1]
          refine iteT ?_
          refine ⟨_, rfl, _, hE5, by rw [refsW_len, sizeLine_eq]; omega, F ++ [p], kp_put k5, by rw [upd_same, refsW_add], WalksAt.keep kp_lst (lists_one hE5) (wF.add hp5), ?_⟩
          rw [take_filter hp, lst, decide_eq_true h1, ← eF]
          rfl
        · rw [decide_eq_false h1]
          refine iteF ⟨F, k5, hE5, wF, ?_⟩
          rw [take_filter hp, lst, decide_eq_false h1, ← eF]
          simp
      rintro H5 ⟨F, k5, hE5, wF, eF⟩
      rw [refsW_len, List.take_length] at eF
      have s5 := kp_same he k5
      have eF2 : F.map (·.2) = endW C.wished (lvW C.roads U S (i + 1)) := by
        rw [← eN', eF]
        unfold endW
        rw [List.filter_map]
        rfl
      refine at_name ?_
      dsimp only
      refine ⟨_, rfl, Nat.zero_le _, fun em hem => ?_⟩
      have s6 : Same H5 (upd H5 em (.lst [])) := same_upd hem
      have hM6 : (upd H5 em (.lst [])) em = some (.lst []) := upd_same
      generalize upd H5 em (.lst []) = H6 at s6 hM6
      have s16 := ((s2.trans s24).trans s5).trans s6
      have hE6 := s6 _ _ hE5
      have wF6 := wF.same s6
      refine ⟨.list (F.map fun p => lotD p.2), .list [], .lst (.inl (.inl hE6)) (walks_dp wF6), .lst (.inl (.inl hM6)) .nil, shaped_walks F, rfl, _, rfl, ?_⟩
      rw [eqv_nil]
      cases F with
      | nil =>
        refine iteF ?_
        have hG6 := s6 _ _ (s5 _ _ hG4)
        refine ⟨_, rfl, g, N, _, _, _, _, _, _, _, rfl, s16, hG6, (wN.same s5).same s6, eN', fun j hj => ?_⟩
        rcases Nat.lt_or_eq_of_le (Nat.le_of_lt_succ hj) with lt | e1
        · exact low j lt
        · rw [e1, ← eF2]
          rfl
      | cons p0 F0 =>
        refine iteT ?_
        refine ⟨_, rfl, e, (p0 :: F0).map (fun p => (p.1, iN p.2)), rfl, .inl (.inl ?_), ?_, (fun z => by cases z), fun rr hrr least => ?_⟩
        · rw [List.map_map]
          exact hE6
        · intro z hz
          obtain ⟨p, hp, rfl⟩ := List.mem_map.mp hz
          have := wF6 p hp
          rwa [vN_map] at this
        · obtain ⟨p, hp, rfl⟩ := List.mem_map.mp hrr
          have hm : ∀ z ∈ endW C.wished (lvW C.roads U S (i + 1)), iN p.2 ≤ iN z := fun z hz => by
            rw [← eF2] at hz
            obtain ⟨u, hu, rfl⟩ := List.mem_map.mp hz
            exact least (u.1, iN u.2) (List.mem_map.mpr ⟨u, hu, rfl⟩)
          exact q (.ref p.1) (some p.2) H6 (s1.trans s16) ⟨p.1, rfl, wF6 p hp⟩ (due_some low (by rw [← eF2]; exact List.mem_map.mpr ⟨p, hp, rfl⟩) hm)
    · rintro σ H2 ⟨wa, R, v4, v5, v6, v7, v8, v9, v10, rfl, s2, hW2, wR, eR, low⟩
      refine q .non none H2 (s1.trans s2) rfl (due_none fun j hj => low j (by omega))
end
end Ft

set_option Elab.async false
set_option linter.all false
set_option maxRecDepth 100000
set_option maxHeartbeats 8000000
/-! Plain mathematics: a chain with one trap -/
namespace Ft
open PySem PySem.Spec PyProof.Rows L2
theorem nm_inj5 {perm : List Nat} {n : Nat} (pm : perm.Perm (List.range n)) {a b : Nat} (ha : a < n) (hb : b < n) (e : nm perm a = nm perm b) : a = b := by
  have len : perm.length = n := by rw [pm.length_eq, List.length_range]
  have nd : perm.Nodup := pm.nodup_iff.mpr List.nodup_range
  have h1 := nm_get (perm := perm) (a := a) (by omega)
  have h2 := nm_get (perm := perm) (a := b) (by omega)
  rw [e] at h1
  exact (List.getElem?_inj (by omega) nd).mp (h1.trans h2.symm)
structure ChainC (C : Chart) (n : Nat) (perm : List Nat) : Prop where
  size : C.n = n
  n2 : 2 ≤ n
  pm : perm.Perm (List.range n)
  road : ∀ x y, (x, y) ∈ C.roads ↔ ∃ i, i + 1 < n ∧ x = nm perm i ∧ y = nm perm (i + 1)
  wished : C.wished = [nm perm (n - 1)]
section
variable {C : Chart} {n : Nat} {perm : List Nat} {t : Nat} {L : List (Nat × Nat)}
theorem chain_label (h : ChainC C n perm) (ht : t < n) (lf : Left C.n C.roads C.wished [nm perm t] L) : ∀ {k x : Nat}, (x, k) ∈ L → ∃ i, x = nm perm i ∧ i + k + 1 = n ∧ t < i
  | 0, x, hx => by
    obtain ⟨h1, h2⟩ := (lf.zero x).mp hx
    have two := h.n2
    rw [h.wished, List.mem_singleton] at h1
    refine ⟨n - 1, h1, by omega, ?_⟩
    rcases Nat.lt_or_ge t (n - 1) with lt | ge
    · exact lt
    · have : t = n - 1 := by omega
      exact absurd (by rw [h1, this]; exact List.mem_cons_self) h2
  | k + 1, x, hx => by
    obtain ⟨_, c, h1, h2⟩ := lf.succ x k hx
    obtain ⟨i, i1, rfl, rfl⟩ := (h.road _ _).mp h1
    obtain ⟨i', e1, e2, e3⟩ := chain_label h ht lf h2
    have := nm_inj5 h.pm i1 (by omega) e1
    subst this
    refine ⟨i, rfl, by omega, ?_⟩
    have hnt := (lf.lt _ hx).2
    rcases Nat.lt_or_ge t i with lt | ge
    · exact lt
    · have : t = i := by omega
      exact absurd (by rw [this]; exact List.mem_cons_self) hnt
theorem chain_has (h : ChainC C n perm) (ht : t < n) (lf : Left C.n C.roads C.wished [nm perm t] L) : ∀ {d i : Nat}, i + d + 1 = n → t < i → (nm perm i, d) ∈ L
  | 0, i, e, hi => by
    refine (lf.zero _).mpr ⟨?_, fun m => ?_⟩
    · rw [h.wished, List.mem_singleton]
      congr 1
      omega
    · have := nm_inj5 h.pm (by omega) ht (List.mem_singleton.mp m)
      omega
  | d + 1, i, e, hi => by
    have ih := chain_has h ht lf (d := d) (i := i + 1) (by omega) (by omega)
    have nw : nm perm i ∉ C.wished := fun m => by
      rw [h.wished, List.mem_singleton] at m
      have := nm_inj5 h.pm (by omega) (by omega) m
      omega
    have nt : nm perm i ∉ [nm perm t] := fun m => by
      have := nm_inj5 h.pm (by omega) ht (List.mem_singleton.mp m)
      omega
    obtain ⟨k, _, hk⟩ := lf.near (nm perm i) (nm perm (i + 1)) d ((h.road _ _).mpr ⟨i, by omega, rfl, rfl⟩) nw nt ih
    obtain ⟨i', e1, e2, _⟩ := chain_label h ht lf hk
    have := nm_inj5 h.pm (by omega) (by omega) e1
    have ek : k = d + 1 := by omega
    rw [← ek]
    exact hk
theorem chain_leads (h : ChainC C n perm) : ∀ {l : List Nat} {i : Nat} {k : Int}, Leads C.roads L (nm perm i) k l → i < n → k = (n : Int) - 2 - i → l = perm.drop (i + 1)
  | [], i, k, hl, hi, e => by
    have len : perm.length = n := by rw [h.pm.length_eq, List.length_range]
    cases hl with
    | stop =>
      rw [List.drop_eq_nil_of_le (by omega)]
  | x :: l, i, k, hl, hi, e => by
    have len : perm.length = n := by rw [h.pm.length_eq, List.length_range]
    cases hl with
    | @go _ k' _ _ h1 h2 h3 h4 =>
      obtain ⟨j, j1, e1, e2⟩ := (h.road _ _).mp h1
      have := nm_inj5 h.pm hi (by omega) e1
      subst this
      subst e2
      have ih := chain_leads h h4 (by omega) (by omega)
      have hg := nm_get (perm := perm) (a := i + 1) (by omega)
      obtain ⟨hlt, eg⟩ := List.getElem?_eq_some_iff.mp hg
      rw [List.drop_eq_getElem_cons hlt, eg, ih]
theorem chain_due (h : ChainC C n perm) {one two : Nat} {S : List Nat} (ht : t < n) (h1 : one + 1 < n) (h2 : two + 1 < n) (hS : ∀ x, x ∈ S ↔ x = nm perm one ∨ x = nm perm two) {b : Nat} (hb : b = if two > one then two else one) :
    if t > b then DueIs C [nm perm t] S none else DueIs C [nm perm t] S (some (perm.drop b)) := by
  have bn : b + 1 < n := by rw [hb]; split <;> omega
  have b1 : one ≤ b := by rw [hb]; split <;> omega
  have b2 : two ≤ b := by rw [hb]; split <;> omega
  have bS : nm perm b ∈ S := by
    rw [hS, hb]
    split
    · exact .inr rfl
    · exact .inl rfl
  have low : ∀ {L}, Left C.n C.roads C.wished [nm perm t] L → ∀ a x k, a ∈ S → (a, x) ∈ C.roads → (x, k) ∈ L → ∃ i, a = nm perm i ∧ i ≤ b ∧ i + k + 2 = n ∧ t ≤ i := fun {L} lf a x k ha hr hk => by
    obtain ⟨i, i1, rfl, rfl⟩ := (h.road _ _).mp hr
    obtain ⟨j, e1, e2, e3⟩ := chain_label h ht lf hk
    have := nm_inj5 h.pm i1 (by omega) e1
    refine ⟨i, rfl, ?_, by omega, by omega⟩
    rcases (hS _).mp ha with e | e
    · have := nm_inj5 h.pm (by omega) (by omega) e
      omega
    · have := nm_inj5 h.pm (by omega) (by omega) e
      omega
  split
  · rename_i hgt
    intro L lf ⟨a, ha, x, k, hr, hk⟩
    obtain ⟨i, _, i2, _, i4⟩ := low lf a x k ha hr hk
    omega
  · rename_i hle
    intro L lf
    have top := chain_has h ht lf (d := n - 2 - b) (i := b + 1) (by omega) (by omega)
    have rd : (nm perm b, nm perm (b + 1)) ∈ C.roads := (h.road _ _).mpr ⟨b, bn, rfl, rfl⟩
    refine ⟨⟨_, bS, _, _, rd, top⟩, fun wk hw => ?_⟩
    obtain ⟨k, a, l, rfl, ha, ⟨x, hr, hk⟩, least, ld⟩ := hw
    obtain ⟨i, rfl, i2, i3, i4⟩ := low lf a x k ha hr hk
    have := least _ _ _ bS rd top
    have ei : i = b := by omega
    subst ei
    have e := chain_leads h ld (by omega) (by omega)
    have len : perm.length = n := by rw [h.pm.length_eq, List.length_range]
    have hg := nm_get (perm := perm) (a := i) (by omega)
    obtain ⟨hlt, eg⟩ := List.getElem?_eq_some_iff.mp hg
    rw [List.drop_eq_getElem_cons hlt, eg, e]
/-- the sorted roads of a chain -/
theorem chain_rows (n2 : 2 ≤ n) (pm : perm.Perm (List.range n)) {R : List Row} (e : R.map (·.2) = (List.range (n - 1)).map fun j => two (nm perm j, nm perm (j + 1))) :
    ∃ ps : List (Nat × Nat), (R.mergeSort leR).map (·.2) = ps.map two ∧ ps.Pairwise ltP ∧ ps.length = n - 1 ∧ ∀ x y, (x, y) ∈ ps ↔ ∃ i, i + 1 < n ∧ x = nm perm i ∧ y = nm perm (i + 1) := by
  have sp := List.mergeSort_perm R leR
  have all : ∀ r ∈ R.mergeSort leR, ∃ q, r.2 = two q := fun r hr => by
    have : r.2 ∈ R.map (·.2) := List.mem_map.mpr ⟨r, sp.mem_iff.mp hr, rfl⟩
    rw [e] at this
    obtain ⟨q, _, hq⟩ := List.mem_map.mp this
    exact ⟨_, hq.symm⟩
  obtain ⟨ps, eps⟩ := rows_two _ all
  have nd : ((R.mergeSort leR).map (·.2)).Nodup := by
    rw [(sp.map (·.2)).nodup_iff, e]
    refine List.pairwise_map.mpr ?_
    refine List.nodup_range.imp_of_mem fun {a b} ha hb ne z => ne ?_
    have := two_inj z
    rw [List.mem_range] at ha hb
    exact nm_inj5 pm (by omega) (by omega) (Prod.ext_iff.mp this).1
  have up := rows_up eps ((List.pairwise_mergeSort leR_trans leR_total R).imp fun h => of_decide_eq_true h) nd
  refine ⟨ps, eps, up, ?_, fun x y => ?_⟩
  · have h1 := congrArg List.length eps
    rw [List.length_map, List.length_map, List.length_mergeSort] at h1
    have h2 := congrArg List.length e
    rw [List.length_map, List.length_map, List.length_range] at h2
    omega
  · have h1 : two (x, y) ∈ ps.map two ↔ two (x, y) ∈ (List.range (n - 1)).map fun j => two (nm perm j, nm perm (j + 1)) := by
      rw [← eps, ← e]
      exact (sp.map (·.2)).mem_iff
    have inj : two (x, y) ∈ ps.map two ↔ (x, y) ∈ ps := ⟨fun h => by
      obtain ⟨q, hq, z⟩ := List.mem_map.mp h
      exact two_inj z ▸ hq, fun h => List.mem_map.mpr ⟨_, h, rfl⟩⟩
    rw [← inj, h1, List.mem_map]
    constructor
    · rintro ⟨j, hj, z⟩
      have := two_inj z
      rw [List.mem_range] at hj
      exact ⟨j, by omega, (Prod.ext_iff.mp this).1.symm, (Prod.ext_iff.mp this).2.symm⟩
    · rintro ⟨i, hi, rfl, rfl⟩
      exact ⟨i, List.mem_range.mpr (by omega), rfl⟩
end
end Ft

set_option Elab.async false
set_option linter.all false
set_option maxRecDepth 100000
set_option maxHeartbeats 8000000
namespace Ft
open PySem PySem.Spec PyProof.Rows L2
theorem nm_at0 {perm : List Nat} {n : Nat} (pm : perm.Perm (List.range n)) {a : Nat} {i : Int} (h : a < n) (e : i = (a : Int)) : atI (perm.map vN) i = some (vN (nm perm a)) := by
  rw [e]
  exact nm_at pm h
section
variable {P : Program} {w : World} {K : PySem.W.Frag} {mg : Str → Option Value} {base : Heap} {ca : Str → Addr}
/-! ### _law_chain -/
def sp_law_chain (K : PySem.W.Frag) : Sp := fun vs H Q _ => ∃ (p l : Addr), vs = [.ref p] ∧ PoolAt H p l ∧ ∀ H', PoolAt H' p l → Kp [p, l] H H' → Q (.bl true) H'
theorem cal_law_chain (T : Txt mg) (D : Def K mg "_law_chain" s_law_chain) (c_law_draw : Cal P w K mg base 2 "_law_draw" sp_law_draw) (c_law_turned : Cal P w K mg base 3 "_law_turned" (sp_law_turned K)) (c_law_told : CalG P w K mg base 8 "_law_told" (sp_law_told K)) : CalG P w K mg base 9 "_law_chain" (sp_law_chain K) := by
  refine calG_of D sc_law_chain (fun _ _ _ _ _ _ us hl => match us, hl with | [_], _ => rfl) (fun vs H Q E h => ?_) (fun f cdv A outer s H vs Q E hg hr h => ?_)
  · obtain ⟨p, l, rfl, _⟩ := h
    rfl
  · obtain ⟨p, l, rfl, hP, q⟩ := h
    have hU := hr.units
    have hG := hg
    refine ⟨_, (pss_cons (ps_set (i := 1) sc_law_chain.nd rfl (Or.inl rfl) (pe_op op_add pe_int (pe_c c_law_draw hr (by decide) (by rfl) (pa_cons (pv 0) (pa_cons pe_int pa_nil)))))
      (pss_cons (ps_set (i := 2) sc_law_chain.nd rfl (Or.inr rfl) (pe_c c_law_turned hr (by decide) (by rfl) (pa_cons (pv 0) (pa_cons (pv 1) pa_nil))))
      (pss_cons (ps_set (i := 3) sc_law_chain.nd rfl (Or.inl rfl) (pe_callB (show CallR _ _ (rSortedR K) from cr_sortedR hU) (by rfl) T.sorted (by decide +kernel) (pa_cons (pe_lc (own := [("at", 10)]) rfl sc_law_chain.nd (pi_range1 (by rfl) T.range (pa_cons (pe_op op_sub (pv 1) pe_int) pa_nil)) (blkOk_by (N := ["pool", "many", "names", "roads", "one", "two", "trap", "lot", "begun", "due", "at"]) (sc := L2.defScope s_law_chain) (by decide +kernel)) (fun _ _ _ _ _ => (pg_name (i := 10) sc_law_chain.nd rfl (Or.inl rfl))) (fun _ _ _ _ _ => pts_nil) (fun _ _ _ _ _ => (pe_tup (pa_cons (pe_ix (show IxR _ (rIxL K) from ix_list) (pv 2) (pv 10) (fun _ _ => rfl)) (pa_cons (pe_ix (show IxR _ (rIxL K) from ix_list) (pv 2) (pe_op op_add (pv 10) pe_int) (fun _ _ => rfl)) pa_nil))))) pa_nil)))
      (pss_cons (ps_par3 (i := 4) (j := 5) (l := 6) (by rfl) sc_law_chain.nd rfl rfl rfl (by decide) (by decide) (by decide) rfl rfl rfl (pa_cons (pe_c c_law_draw hr (by decide) (by rfl) (pa_cons (pv 0) (pa_cons (pe_op op_sub (pv 1) pe_int) pa_nil))) (pa_cons (pe_c c_law_draw hr (by decide) (by rfl) (pa_cons (pv 0) (pa_cons (pe_op op_sub (pv 1) pe_int) pa_nil))) (pa_cons (pe_c c_law_draw hr (by decide) (by rfl) (pa_cons (pv 0) (pa_cons (pv 1) pa_nil))) pa_nil))) (by rfl))
      (pss_cons (ps_par (i := 7) (j := 8) (by rfl) sc_law_chain.nd rfl rfl (by decide) rfl rfl (pa_cons (pe_callTy (show CallR _ _ (rTupleOf K) from call_tupleOf) (by rfl) T.tuple (by decide +kernel) (pa_cons (pe_callB (show CallR _ _ (rSortedSet w) from cr_sortedSet rfl) (by rfl) T.sorted (by decide +kernel) (pa_cons (pe_callTy (show CallR _ _ (rSetI K w) from cr_setI rfl) (by rfl) T.set (by decide +kernel) (pa_cons (pe_lst (pa_cons (pe_ix (show IxR _ (rIxL K) from ix_list) (pv 2) (pv 4) (fun _ _ => rfl)) (pa_cons (pe_ix (show IxR _ (rIxL K) from ix_list) (pv 2) (pv 5) (fun _ _ => rfl)) pa_nil))) pa_nil)) pa_nil)) pa_nil)) (pa_cons (pe_callB (call_max2 rfl) (by rfl) T.max (by decide +kernel) (pa_cons (pv 4) (pa_cons (pv 5) pa_nil))) pa_nil)) (by rfl))
      (pss_cons (ps_set (i := 9) sc_law_chain.nd rfl (Or.inl rfl) (pe_mid (pe_ifExp (pt_cmpR op_gt (pv 6) (pv 8) (nomark _)) pe_non (pe_callTy (show CallR _ _ (rTupleOf K) from call_tupleOf) (by rfl) T.tuple (by decide +kernel) (pa_cons (pe_slice (show SlR _ (rSlL K) from sl_list) (pv 2) (po_some (pv 8)) po_none) pa_nil)))))
      (pss_one (ps_ret (pe_g c_law_told hG hr (by decide) (by rfl) (pa_cons (pe_tup (pa_cons (pv 1) (pa_cons (pe_callTy (show CallR _ _ (rTupleOf K) from call_tupleOf) (by rfl) T.tuple (by decide +kernel) (pa_cons (pv 3) pa_nil)) (pa_cons (pe_tup (pa_cons (pe_ix (show IxR _ (rIxL K) from ix_list) (pv 2) (pe_op op_sub (pv 1) pe_int) (fun _ _ => rfl)) pa_nil)) pa_nil)))) (pa_cons (pe_tup (pa_cons (pe_ix (show IxR _ (rIxL K) from ix_list) (pv 2) (pv 6) (fun _ _ => rfl)) pa_nil)) (pa_cons (pv 7) (pa_cons (pv 9) pa_nil))))))))))))), ?_⟩
    refine ⟨_, rfl, p, l, 59, rfl, hP, by decide, by decide, fun r H1 hr1 hP1 k1 => ⟨2, r, rfl, rfl, ?_⟩⟩
    obtain ⟨n, en⟩ : ∃ n, 2 + r = n := ⟨_, rfl⟩
    have en' : V.int (2 + (r : Int)) = vN n := by rw [← en]; rfl
    have n2 : 2 ≤ n := by omega
    have n60 : n ≤ 60 := by omega
    show gName 1 (V.int (2 + (r : Int))) _ _ _
    rw [en']
    refine ⟨_, rfl, _, rfl, p, l, n, rfl, hP1, by omega, fun nq perm H2 pm hnq hN2 hP2 k2 => ?_⟩
    have off : nq ∉ [p, l] := hP1.free hnq
    have k02 := k1.trans k2
    refine ⟨_, rfl, (n : Int), 1, rfl, rfl, _, rfl, by show -2 ^ 62 ≤ (n : Int) - 1; omega, by show (n : Int) - 1 < 2 ^ 62; omega, fun D0 hD0 => ?_⟩
    refine lc_range (lo := 0) (n := ((n : Int) - 1).toNat) (fun i H' => ∃ R : List Row, Kp [D0] H2 H' ∧ H' D0 = some (.lst (R.map fun p => V.ref p.1)) ∧ (∀ p ∈ R, H' p.1 = some (.tup (p.2.map V.int))) ∧ R.map (·.2) = (List.range i).map fun j => two (nm perm j, nm perm (j + 1)))
      ⟨[], (fun b o nb e' => by rw [upd_ne (ne_of_none e' hD0)]; exact e'), upd_same, (fun _ h => nomatch h), by simp⟩ ?_ ?_
    · rintro i H3 hi ⟨R, k3, hR3, tR, eR⟩
      have s3 := kp_same hD0 k3
      have hN3 : SqL K H3 nq (perm.map vN) := .inl (.inl (s3 _ _ hN2))
      have lR := congrArg List.length eR
      rw [List.length_map, List.length_map, List.length_range] at lR
      refine ⟨rfl, ?_⟩
      refine ⟨_, rfl, _, rfl, nq, _, _, _, rfl, rfl, hN3, nm_at0 pm (a := i) (by omega) (Int.zero_add _), ?_⟩
      refine ⟨_, rfl, _, rfl, _, _, rfl, rfl, nq, _, _, _, rfl, rfl, hN3, nm_at0 pm (a := i + 1) (by omega) (by omega), ?_⟩
      refine ⟨by show 2 ≤ sizeLine; decide, fun t ht => ?_⟩
      have s4 : Same H3 (upd H3 t (.tup [vN (nm perm i), vN (nm perm (i + 1))])) := same_upd ht
      have hT4 : (upd H3 t (.tup [vN (nm perm i), vN (nm perm (i + 1))])) t = some (.tup [vN (nm perm i), vN (nm perm (i + 1))]) := upd_same
      generalize upd H3 t (.tup [vN (nm perm i), vN (nm perm (i + 1))]) = H4 at s4 hT4
      have hR4 := s4 _ _ hR3
      have nt : ∀ {z : Addr} {xs : List V}, H4 z = some (.tup xs) → z ≠ D0 := fun e z => by rw [z, hR4] at e; cases e
      refine ⟨_, hR4, by rw [List.length_map, sizeLine_eq]; omega, R ++ [(t, two (nm perm i, nm perm (i + 1)))], kp_put (k3.trans (Same.kp s4)), by rw [upd_same, List.map_append]; rfl, fun z hz => ?_, ?_⟩
      · rcases List.mem_append.mp hz with hz | hz
        · have e := s4 _ _ (tR z hz)
          rw [upd_ne (nt e)]
          exact e
        · rw [List.mem_singleton.mp hz]
          rw [upd_ne (nt hT4)]
          exact hT4
      · rw [List.map_append, eR, List.range_succ, List.map_append]
        rfl
    rintro H3 ⟨R, k3, hR3, tR, eR⟩
    have s3 := kp_same hD0 k3
    have en1 : ((n : Int) - 1).toNat = n - 1 := by omega
    rw [en1] at eR
    refine ⟨D0, R, rfl, .inl (.inl hR3), (fun p hp => .inl (.inl (tR p hp))), (fun p hp e => ?_), fun sl hsl => ?_⟩
    · have : p.2 ∈ R.map (·.2) := List.mem_map.mpr ⟨p, hp, rfl⟩
      rw [eR] at this
      obtain ⟨j, _, z⟩ := List.mem_map.mp this
      rw [e] at z
      cases z
    obtain ⟨ps, eps, up, lps, mps⟩ := chain_rows n2 pm eR
    have rt : ∀ x ∈ R.mergeSort leR, SqT K H3 x.1 (x.2.map V.int) := fun x hx => .inl (.inl (tR x ((List.mergeSort_perm R leR).mem_iff.mp hx)))
    have prs3 : PairsAt K H3 ((R.mergeSort leR).map (·.1)) ps := rows_pairs eps rt
    have ls3 : (R.mergeSort leR).map (fun p => V.ref p.1) = ((R.mergeSort leR).map (·.1)).map V.ref := by rw [List.map_map]; rfl
    rw [ls3]
    generalize (R.mergeSort leR).map (·.1) = ts at prs3
    have s4 : Same H3 (upd H3 sl (.lst (ts.map V.ref))) := same_upd hsl
    have hS4 : (upd H3 sl (.lst (ts.map V.ref))) sl = some (.lst (ts.map V.ref)) := upd_same
    generalize upd H3 sl (.lst (ts.map V.ref)) = H4 at s4 hS4
    have s24 := s3.trans s4
    have hP4 := hP2.same s24
    have hN4 := s24 _ _ hN2
    have prs4 := prs3.keep (ex := []) (Same.kp s4) (lists_nil _)
    have offS : sl ∉ [p, l] := (hP2.same s3).free hsl
    refine ⟨_, rfl, _, rfl, _, _, rfl, rfl, p, l, n - 1, (by show [V.ref p, V.int ((n : Int) - 1)] = _; unfold vN; rw [show ((n - 1 : Nat) : Int) = (n : Int) - 1 by omega]), hP4, by omega, by omega, fun one H5 h1 hP5 k5 => ?_⟩
    refine ⟨_, rfl, _, rfl, _, _, rfl, rfl, p, l, n - 1, (by show [V.ref p, V.int ((n : Int) - 1)] = _; unfold vN; rw [show ((n - 1 : Nat) : Int) = (n : Int) - 1 by omega]), hP5, by omega, by omega, fun two H6 h2 hP6 k6 => ?_⟩
    refine ⟨_, rfl, _, rfl, p, l, n, rfl, hP6, by omega, by omega, fun trap H7 h3 hP7 k7 => ⟨_, _, _, rfl, ?_⟩⟩
    have k47 := (k5.trans k6).trans k7
    have hN7 : H7 nq = some (.lst (perm.map vN)) := k47 _ _ off hN4
    have hS7 := k47 _ _ offS hS4
    have prs7 := prs4.keep k47 hP4.lists
    have k07 : Kp [p, l] H H7 := (k02.trans (Same.kp s24)).trans k47
    refine ⟨_, rfl, _, rfl, nq, _, _, _, rfl, rfl, .inl (.inl hN7), nm_at pm (a := one) (by omega), _, rfl, _, rfl, nq, _, _, _, rfl, rfl, .inl (.inl hN7), nm_at pm (a := two) (by omega), by show 2 ≤ sizeLine; decide, fun ll hll => ?_⟩
    have s8 : Same H7 (upd H7 ll (.lst [vN (nm perm one), vN (nm perm two)])) := same_upd hll
    have hL8 : (upd H7 ll (.lst [vN (nm perm one), vN (nm perm two)])) ll = some (.lst ((iN [nm perm one, nm perm two]).map V.int)) := upd_same
    generalize upd H7 ll (.lst [vN (nm perm one), vN (nm perm two)]) = H8 at s8 hL8
    refine ⟨ll, _, rfl, .inl (.inl (.inl hL8)), by rw [iN_length]; show 2 ≤ 1000; decide, fun sp m hsp hm => ?_⟩
    generalize eH9 : upd H8 sp _ = H9
    have s9 : Same H8 H9 := by rw [← eH9]; exact same_upd hsp
    have hS9 : H9 sp = some (SetO w sp (fun j => decide (j ∈ iN [nm perm one, nm perm two])) m) := by rw [← eH9]; exact upd_same
    clear eH9
    refine ⟨sp, _, m, rfl, hS9, by have := hm; rw [iN_length] at this; simp at this; omega, fun ns so upn mem len hso => ?_⟩
    obtain ⟨S, rfl⟩ : ∃ S : List Nat, ns = iN S := by
      refine ⟨ns.map Int.toNat, ?_⟩
      unfold iN
      rw [List.map_map]
      conv => lhs; rw [← List.map_id ns]
      refine List.map_congr_left fun x hx => ?_
      have := of_decide_eq_true ((mem x).mp hx)
      unfold iN at this
      obtain ⟨y, _, e⟩ := List.mem_map.mp this
      subst e
      show (y : Int) = ((y : Int).toNat : Int)
      omega
    have hSm : ∀ x, x ∈ S ↔ x = nm perm one ∨ x = nm perm two := fun x => by
      have := mem (x : Int)
      rw [decide_eq_true_eq, iN_mem, iN_mem] at this
      rw [this]
      simp
    have upS : S.Pairwise (· < ·) := by
      unfold iN at upn
      exact (List.pairwise_map.mp upn).imp fun h => by omega
    generalize eH10 : upd H9 so _ = H10
    have s10 : Same H9 H10 := by rw [← eH10]; exact same_upd hso
    have hO10 : H10 so = some (.lst (S.map vN)) := by rw [← eH10, vN_map]; exact upd_same
    clear eH10
    refine ⟨so, _, rfl, .inl ⟨.inl (.inl hO10), fun lo hlo => ?_⟩⟩
    generalize eH11 : upd H10 lo _ = H11
    have s11 : Same H10 H11 := by rw [← eH11]; exact same_upd hlo
    have hLo11 : SqT K H11 lo (S.map vN) := by rw [← eH11]; exact .inl (.inl upd_same)
    clear eH11
    refine ⟨_, rfl, _, rfl, (one : Int), (two : Int), rfl, _, _, rfl, ?_⟩
    obtain ⟨b, eb⟩ : ∃ b, (if two > one then two else one) = b := ⟨_, rfl⟩
    have eb' : (if (two : Int) > (one : Int) then (two : Int) else (one : Int)) = (b : Int) := by
      rw [← eb]
      split
      · rw [if_pos (by omega)]
      · rw [if_neg (by omega)]
    rw [eb']
    have bn : b + 1 < n := by rw [← eb]; split <;> omega
    have s7 := ((s8.trans s9).trans s10).trans s11
    have hN11 := s7 _ _ hN7
    have hS11 := s7 _ _ hS7
    have hP11 := hP7.same s7
    have prs11 := prs7.keep (ex := []) (Same.kp s7) (lists_nil _)
    refine ⟨fun v H' => Same H11 H' ∧ DueV K H' v (if trap > b then none else some (perm.drop b)), ?_, ?_⟩
    · refine ⟨_, rfl, _, rfl, _, _, rfl, rfl, _, rfl, ite_any (fun h => ?_) (fun h => ?_)⟩
      · have : trap > b := by
          have z : (trap : Int) > (b : Int) := of_decide_eq_true h
          omega
        rw [if_pos this]
        exact ⟨Same.rfl' _, rfl⟩
      · have : ¬ trap > b := by
          have z := of_decide_eq_false h
          have z : ¬ (trap : Int) > (b : Int) := z
          omega
        rw [if_neg this]
        refine ⟨_, rfl, _, rfl, (b : Int), rfl, no_part ⟨nq, _, rfl, .inl (.inl hN11), fun u hu => ?_⟩⟩
        have ec : cutV (perm.map vN) (some (b : Int)) none = (perm.drop b).map vN := by
          have z : cutV (perm.map vN) (some (b : Int)) none = (perm.map vN).drop b := cutG_drop (k := b)
          rw [z, List.map_drop]
        rw [ec]
        refine ⟨u, _, rfl, .inl ⟨.inl (.inl upd_same), fun t ht => ?_⟩⟩
        exact ⟨(same_upd hu).trans (same_upd ht), t, rfl, .inl (.inl upd_same)⟩
    rintro v H12 ⟨s12, hv⟩
    have hN12 := s12 _ _ hN11
    have hS12 := s12 _ _ hS11
    refine ⟨_, rfl, _, rfl, sl, _, rfl, .inl ⟨.inl (.inl hS12), fun rt hrt => ?_⟩⟩
    generalize eH13 : upd H12 rt _ = H13
    have s13 : Same H12 H13 := by rw [← eH13]; exact same_upd hrt
    have hR13 : SqT K H13 rt (ts.map V.ref) := by rw [← eH13]; exact .inl (.inl upd_same)
    clear eH13
    refine ⟨_, rfl, _, rfl, (n : Int), 1, rfl, rfl, nq, _, _, _, rfl, rfl, .inl (.inl (s13 _ _ hN12)), nm_at0 pm (a := n - 1) (by omega) (by omega), by show 1 ≤ sizeLine; decide, fun wd hwd => ?_⟩
    generalize eH14 : upd H13 wd _ = H14
    have s14 : Same H13 H14 := by rw [← eH14]; exact same_upd hwd
    have hW14 : SqT K H14 wd ([nm perm (n - 1)].map vN) := by rw [← eH14]; exact .inl (.inl upd_same)
    clear eH14
    refine ⟨by show 3 ≤ sizeLine; decide, fun c hc => ?_⟩
    generalize eH15 : upd H14 c _ = H15
    have s15 : Same H14 H15 := by rw [← eH15]; exact same_upd hc
    have hC15 : SqT K H15 c [vN n, .ref rt, .ref wd] := by rw [← eH15]; exact .inl (.inl upd_same)
    clear eH15
    have s1215 := (s13.trans s14).trans s15
    refine ⟨_, rfl, _, rfl, nq, _, _, _, rfl, rfl, .inl (.inl (s1215 _ _ hN12)), nm_at pm (a := trap) h3, by show 1 ≤ sizeLine; decide, fun tr htr => ?_⟩
    generalize eH16 : upd H15 tr _ = H16
    have s16 : Same H15 H16 := by rw [← eH16]; exact same_upd htr
    have hT16 : SqT K H16 tr ([nm perm trap].map vN) := by rw [← eH16]; exact .inl (.inl upd_same)
    clear eH16
    have s1116 := (s12.trans s1215).trans s16
    obtain ⟨C, eC⟩ : ∃ C : Chart, C = ⟨n, ps, [nm perm (n - 1)]⟩ := ⟨_, rfl⟩
    have ok : C.Ok := by
      subst eC
      refine ⟨n60, by show ps.length ≤ 240; omega, fun x hx => ?_, up, fun a ha => ?_, by show ([nm perm (n - 1)]).Pairwise _; simp⟩
      · obtain ⟨i, i1, e1, e2⟩ := (mps x.1 x.2).mp hx
        rw [e1, e2]
        exact ⟨perm_lt pm (by omega), perm_lt pm (by omega)⟩
      · rw [List.mem_singleton.mp ha]
        exact perm_lt pm (by omega)
    have chn : ChainC C n perm := by
      subst eC
      exact ⟨rfl, n2, pm, mps, rfl⟩
    have isC : IsChart K H16 c C := by
      subst eC
      exact ⟨rt, wd, ts, Same.sqT s16 hC15, Same.sqT ((s14.trans s15).trans s16) hR13, prs11.keep (ex := []) (Same.kp s1116) (lists_nil _), Same.sqT (s15.trans s16) hW14⟩
    have inS : ∀ x ∈ S, x < C.n := fun x hx => by
      rw [chn.size]
      rcases (hSm x).mp hx with e | e
      · rw [e]
        exact perm_lt pm (by omega)
      · rw [e]
        exact perm_lt pm (by omega)
    have due := chain_due chn h3 (one := one) (two := two) (by omega) (by omega) hSm eb.symm
    refine ⟨_, rfl, _, rfl, c, tr, lo, C, [nm perm trap], S, v, _, rfl, isC, ok, hT16, (fun x hx => by rw [List.mem_singleton.mp hx, chn.size]; exact perm_lt pm h3), by simp, Same.sqT s1116 hLo11, inS, upS, hv.same (s1215.trans s16), ?_, fun H17 s17 => ?_⟩
    · split at due
      · rename_i h
        rw [if_pos h]
        exact due
      · rename_i h
        rw [if_neg h]
        exact due
    · have s717 := (s7.trans s1116).trans s17
      exact q H17 (hP7.same s717) (k07.trans (Same.kp s717))
end
end Ft

set_option Elab.async false
set_option linter.all false
set_option maxRecDepth 100000
set_option maxHeartbeats 8000000
/-! What refusals are told to be: one at a time, and rows of them -/
namespace Ft
open PySem PySem.Spec PyProof.Rows L2
open LamX (TabB TabS Tabs ExtN CodeO)
/-- the names of one error and its what as text -/
def saidD (x z : Str) : PyData := .tuple [.list [.str x], .str z]
theorem txt_ok256 : ∀ k : Fin 256, PyData.strOk (txtI ((k.1 : Nat) : Int)) = true := by decide +kernel
theorem txt_ok {i : Int} (h1 : -3 ≤ i) (h2 : i ≤ 240) : PyData.strOk (txtI i) = true := by
  rcases Int.lt_or_le i 0 with h | h
  · have : i = -1 ∨ i = -2 ∨ i = -3 := by omega
    rcases this with rfl | rfl | rfl <;> decide +kernel
  · obtain ⟨n, rfl⟩ := Int.eq_ofNat_of_zero_le h
    exact txt_ok256 ⟨n, by omega⟩
theorem rw_ok {x : Str} (h : RW5 x) : PyData.strOk x = true := by cases h <;> decide +kernel
theorem said_canLay {x z : Str} (hx : PyData.strOk x = true) (hz : PyData.strOk z = true) : (saidD x z).canLay0 = true := by
  simp [saidD, PyData.canLay0, PyData.canLayAll0, hx, hz]
theorem said_shaped {x z : Str} (hx : PyData.strOk x = true) (hz : PyData.strOk z = true) : SeqAt.shaped (saidD x z) = true := by
  refine shaped_iff.mpr ⟨said_canLay hx hz, ?_⟩
  simp [saidD, PyData.depth, PyData.depthAll]
theorem said_eqv {x z : Str} (hx : PyData.strOk x = true) (hz : PyData.strOk z = true) : PyData.eqv (saidD x z) (saidD x z) = true := SeqAt.eqv_refl _ (said_canLay hx hz)
theorem txt_shown (i : Int) : (PyData.int i).shown = txtI i := rfl
theorem saids_shaped {ds : List PyData} (h : ∀ d ∈ ds, ∃ x z, d = saidD x z ∧ PyData.strOk x = true ∧ PyData.strOk z = true) : SeqAt.shaped (.list ds) = true := by
  refine shaped_iff.mpr ⟨?_, ?_⟩
  · simp only [PyData.canLay0]
    refine can_all.mpr fun e he => ?_
    obtain ⟨x, z, rfl, hx, hz⟩ := h e he
    exact said_canLay hx hz
  · simp only [PyData.depth]
    have := depth_all (n := 2) (ds := ds) fun e he => by
      obtain ⟨x, z, rfl, _⟩ := h e he
      simp [saidD, PyData.depth, PyData.depthAll]
    omega
theorem saids_eqv {ds : List PyData} (h : ∀ d ∈ ds, ∃ x z, d = saidD x z ∧ PyData.strOk x = true ∧ PyData.strOk z = true) : PyData.eqv (.list ds) (.list ds) = true := SeqAt.eqv_refl _ (shaped_iff.mp (saids_shaped h)).1
/-- it stays where a list of other things is changed -/
theorem said_keep {K : PySem.W.Frag} {H : Hp} {g : Addr} {ys zs : List V} {v : V} {x z : Str} (hg : H g = some (.lst ys)) (hy : ys ≠ [.str x]) (h : Dp K H v (saidD x z)) : Dp K (upd H g (.lst zs)) v (saidD x z) := by
  have l := fun b (hb : b ∈ [g]) => (show ∃ o, H b = some o ∧ (∀ xs, o ≠ .tup xs) ∧ ∀ q xs, o ≠ .frz q (.tup xs) by
    rw [List.mem_singleton.mp hb]
    exact ⟨_, hg, (fun _ z => nomatch z), (fun _ _ z => nomatch z)⟩)
  have k : Kp [g] H (upd H g (.lst zs)) := fun b u nb eb => by
    rw [upd_ne (fun y => nb (by rw [y]; simp))]
    exact eb
  cases h with
  | tup hT hA =>
    cases hA with
    | cons h1 h2 =>
      cases h2 with
      | cons h3 h4 =>
        cases h4
        cases h3
        cases h1 with
        | lst hL hB =>
          cases hB with
          | cons h5 h6 =>
            cases h6
            cases h5
            refine .tup (k.sqT l hT) (.cons (.lst ?_ (.cons (.str _) .nil)) (.cons (.str _) .nil))
            rcases hL with (e | ⟨o, e⟩) | e
            · refine .inl (.inl ?_)
              rw [upd_ne (fun q => ?_)]
              · exact e
              · rw [q, hg] at e
                exact hy (HO.lst.inj (Option.some.inj e))
            · refine .inl (.inr ⟨o, ?_⟩)
              rw [upd_ne (fun q => ?_)]
              · exact e
              · rw [q, hg] at e
                cases e
            · exact .inr e
section
variable {P : Program} {w : World} {K : PySem.W.Frag} {mg : Str → Option Value} {base : Heap} {ca : Str → Addr}
theorem mw_rw {x : Str} (h : MW x) : RW5 x := by
  cases h
  · exact .map
  · exact .wish
/-- a call that is refused, with a number -/
theorem raised_int {tl : XK → Hp → VK → Prop} {H1 : Hp} {R : VK} {x : Str} {i : Int} (hx : RW5 x) (hi : i.natAbs ≤ 1000) (h : ∀ (E : XK) (Q : VK), Raised K ca H1 E (x, .int i) → tl E H1 Q) (q : ∀ v H2, Same H1 H2 → Dp K H2 v (saidD x (txtI i)) → R v H2) : TTRaised K ca tl H1 R := by
  refine ⟨fun cls d H' => cls = .ref (ca x) ∧ ∃ dd, d = some dd ∧ H' dd = some (.xd [("what", .int i)]) ∧ Same H1 H', fun _ _ => False, h _ _ ?_, (fun _ _ z => z.elim), ?_⟩
  · intro d H' v s' hd hv
    cases dp_int hv
    exact ⟨rfl, d, rfl, hd, s'⟩
  · rintro cls d H' ⟨rfl, dd, rfl, hd, s'⟩
    exact ⟨x, dd, _, .int i, rfl, rfl, hd, hx, .int _, shows_tame (by simp only [tame, decide_eq_true_eq]; exact hi) (by simp [nodes]) (by simp [PyData.depth]), fun v2 H2 s2 hv => q v2 H2 (s'.trans s2) hv⟩
end
end Ft

set_option Elab.async false
set_option linter.all false
set_option maxRecDepth 100000
set_option maxHeartbeats 8000000
namespace Ft
open PySem PySem.Spec PyProof.Rows L2
open LamX (TabB TabS Tabs ExtN CodeO)
theorem due_map {K : PySem.W.Frag} {ca : Str → Addr} {H : Hp} {E : XK} {dc dt dl : PyData} {x : Str} {i : Int} {ok : Chart → List Nat → List Nat → Prop} (h : mapErr dc = some (x, i)) (r : Raised K ca H E (x, .int i)) : DueLL K ca H E dc dt dl ok := by
  refine ⟨fun x' i' h' => ?_, fun C ec o => ?_⟩
  · rw [h] at h'
    cases h'
    exact r
  · rw [ec, mapErr_chart o] at h
    cases h
theorem due_lot {K : PySem.W.Frag} {ca : Str → Addr} {H : Hp} {E : XK} {C : Chart} (o : C.Ok) {dt dl : PyData} {ok : Chart → List Nat → List Nat → Prop} (h : lotOk C.n dt = false ∨ lotOk C.n dl = false) (r : Raised K ca H E ("BadLot", .int (-1))) : DueLL K ca H E (chartD C) dt dl ok := by
  refine ⟨fun x' i' h' => ?_, fun C' ec o' => ⟨fun _ => r, fun U S e1 e2 a1 a2 a3 a4 => ?_⟩⟩
  · rw [mapErr_chart o] at h'
    cases h'
  · rw [chartD_inj ec, e1, e2, lotOk_lot a2 a1, lotOk_lot a4 a3] at h
    rcases h with h | h <;> cases h
section
variable {P : Program} {w : World} {K : PySem.W.Frag} {mg : Str → Option Value} {base : Heap} {ca : Str → Addr} {cc Pt : Addr}
/-! ### _law_refused -/
def lamT (Pt : Addr) : List (Addr × Str) := [(Pt, (("_law_refused" : Str) ++ ".<locals>.") ++ "<lambda>")]
def sp_law_refused (K : PySem.W.Frag) (Pt : Addr) : Sp := fun vs H Q _ => ∃ (c lo : Addr) (C : Chart) (S : List Nat), vs = [.ref c, .ref lo] ∧ IsChart K H c C ∧ C.Ok ∧ C.roads.length < 240 ∧ SqT K H lo (S.map vN) ∧ (∀ x ∈ S, x < C.n) ∧ S.Pairwise (· < ·) ∧ Tabs (lamT Pt) H ∧ ∀ H', Q (.bl true) H'
theorem cal_law_refused (T : Txt mg) (D : DefT K mg "_law_refused" s_law_refused cc) (tb : TabB base mg cc Pt) (l_law_way_raised : CalLG P w K mg base "_law_way_raised" (TTRaised K ca)) (c_law_way_no_charts : Cal P w K mg base 1 "_law_way_no_charts" (sp_law_way_no_charts K)) (c_law_way_no_lots : Cal P w K mg base 1 "_law_way_no_lots" (sp_law_way_no_lots K))
    (c_missed : CalX P w K mg base 6 "missed" (spX_missed K ca)) (c_cuts : CalX P w K mg base 7 "cuts" (spX_cuts K ca)) : CalG P w K mg base 20 "_law_refused" (sp_law_refused K Pt) := by
  refine calG_ofT D sc_law_refused (fun _ _ _ _ _ _ us hl => match us, hl with | [_, _], _ => rfl) (fun vs H Q E h => ?_) (fun f A outer s H vs Q E hg hr h => ?_)
  · obtain ⟨c, lo, C, S, rfl, _⟩ := h
    rfl
  · obtain ⟨c, lo, C, S, rfl, hC, ok, r240, hS, inS, upS, tabs, q⟩ := h
    have hU := hr.units
    have hG := hg
    refine ⟨_, (pss_cons (ps_for PassesOwn.never rfl (show PI _ _ _ (iList K _) from pi_list (pe_c c_law_way_no_charts hr (by decide) (by rfl) (pa_cons (pv 0) pa_nil))) (show PG _ _ (gTup K 3 _) from pg_tup (by rfl) (pgs_cons (pg_name (i := 2) sc_law_refused.nd rfl (Or.inr rfl)) (pgs_cons (pg_name (i := 3) sc_law_refused.nd rfl (Or.inl rfl)) (pgs_cons (pg_name (i := 4) sc_law_refused.nd rfl (Or.inl rfl)) pgs_nil)))) (pss_cons (ps_if (pt_cmpR (show OpR _ _ (rNeD K) from op_neD hU) (pe_lG (T := lamT Pt) 12 l_law_way_raised (by rfl) tb rfl rfl hr (by decide) (lam_scope (sc := L2.defScope s_law_refused) rfl (by decide +kernel)) (by rfl) (fun _ _ _ _ _ => by rfl) (fun A outer s H E f c' hr => (pe_x lam_takes c_cuts hr (by decide) (by rfl) (pa_cons (pv 2) (pa_cons pe_non (pa_cons (pv 1) pa_nil))))) hG) (pe_tup (pa_cons (pe_lst (pa_cons (pv 3) pa_nil)) (pa_cons (pv 4) pa_nil))) (nomark _)) (pss_one (ps_ret pe_bl)) pss_nil)
        (pss_one (ps_if (pt_cmpR (show OpR _ _ (rNeD K) from op_neD hU) (pe_lG (T := lamT Pt) 12 l_law_way_raised (by rfl) tb rfl rfl hr (by decide) (lam_scope (sc := L2.defScope s_law_refused) rfl (by decide +kernel)) (by rfl) (fun _ _ _ _ _ => by rfl) (fun A outer s H E f c' hr => (pe_x lam_takes c_missed hr (by decide) (by rfl) (pa_cons (pv 2) (pa_cons (pv 1) (pa_cons pe_non pa_nil))))) hG) (pe_tup (pa_cons (pe_lst (pa_cons (pv 3) pa_nil)) (pa_cons (pv 4) pa_nil))) (nomark _)) (pss_one (ps_ret pe_bl)) pss_nil))))
      (pss_cons (ps_for PassesOwn.never rfl (show PI _ _ _ (iList K _) from pi_list (pe_op op_cat (pe_c c_law_way_no_lots hr (by decide) (by rfl) (pa_cons (pv 0) pa_nil)) (pe_lst (pa_cons (pe_callTy (show CallR _ _ (rListOf K) from call_listOf) (by rfl) T.list (by decide +kernel) (pa_cons (pv 1) pa_nil)) pa_nil)))) (pg_name (i := 2) sc_law_refused.nd rfl (Or.inr rfl)) (pss_cons (ps_set (i := 5) sc_law_refused.nd rfl (Or.inl rfl) (pe_lst (pa_cons (pe_lG (T := lamT Pt) 12 l_law_way_raised (by rfl) tb rfl rfl hr (by decide) (lam_scope (sc := L2.defScope s_law_refused) rfl (by decide +kernel)) (by rfl) (fun _ _ _ _ _ => by rfl) (fun A outer s H E f c' hr => (pe_x lam_takes c_cuts hr (by decide) (by rfl) (pa_cons (pv 0) (pa_cons (pv 2) (pa_cons (pv 1) pa_nil))))) hG) pa_nil)))
        (pss_cons (ps_expr (pe_bm PySem.F.plainAttrs_list PySem.F.slot_list_append PySem.F.type_list_append mt_append (pv 5) (pa_cons (pe_lG (T := lamT Pt) 12 l_law_way_raised (by rfl) tb rfl rfl hr (by decide) (lam_scope (sc := L2.defScope s_law_refused) rfl (by decide +kernel)) (by rfl) (fun _ _ _ _ _ => by rfl) (fun A outer s H E f c' hr => (pe_x lam_takes c_cuts hr (by decide) (by rfl) (pa_cons (pv 0) (pa_cons (pv 1) (pa_cons (pv 2) pa_nil))))) hG) pa_nil)))
        (pss_cons (ps_expr (pe_bm PySem.F.plainAttrs_list PySem.F.slot_list_append PySem.F.type_list_append mt_append (pv 5) (pa_cons (pe_lG (T := lamT Pt) 12 l_law_way_raised (by rfl) tb rfl rfl hr (by decide) (lam_scope (sc := L2.defScope s_law_refused) rfl (by decide +kernel)) (by rfl) (fun _ _ _ _ _ => by rfl) (fun A outer s H E f c' hr => (pe_x lam_takes c_missed hr (by decide) (by rfl) (pa_cons (pv 0) (pa_cons (pv 2) (pa_cons (pv 1) pa_nil))))) hG) pa_nil)))
        (pss_cons (ps_expr (pe_bm PySem.F.plainAttrs_list PySem.F.slot_list_append PySem.F.type_list_append mt_append (pv 5) (pa_cons (pe_lG (T := lamT Pt) 12 l_law_way_raised (by rfl) tb rfl rfl hr (by decide) (lam_scope (sc := L2.defScope s_law_refused) rfl (by decide +kernel)) (by rfl) (fun _ _ _ _ _ => by rfl) (fun A outer s H E f c' hr => (pe_x lam_takes c_missed hr (by decide) (by rfl) (pa_cons (pv 0) (pa_cons (pv 1) (pa_cons (pv 2) pa_nil))))) hG) pa_nil)))
        (pss_one (ps_if (pt_cmpR (show OpR _ _ (rNeD K) from op_neD hU) (pv 5) (pe_op op_rep (pe_lst (pa_cons (pe_tup (pa_cons (pe_lst (pa_cons pe_str pa_nil)) (pa_cons pe_str pa_nil))) pa_nil)) pe_int) (nomark _)) (pss_one (ps_ret pe_bl)) pss_nil)))))))
      (pss_one (ps_ret pe_bl)))), ?_⟩
    refine ⟨_, rfl, c, C, rfl, hC, ok, r240, fun t xs ds H1 hT1 hd1 ld nm s1 => ?_⟩
    have tabs1 := tabs_same tabs s1
    have hC1 := hC.same s1
    have hS1 := Same.sqT s1 hS
    have lx := dpAll_length hd1
    refine ⟨t, rfl, ⟨_, .inl (.inl hT1)⟩, for_list (K := K) (xs := xs) (fun i σ H' => ∃ v2 v3 v4 v5 : Option V, σ = [some (.ref c), some (.ref lo), v2, v3, v4, v5] ∧ ExtN H1 H' ∧ Tabs (lamT Pt) H') ⟨_, _, _, _, rfl, ExtN.refl _, tabs1⟩ (fun i σ H' _ ⟨_, _, _, _, _, e, _⟩ => ext_sqL e (.inl (.inl hT1))) ?_ ?_⟩
    · rintro i y σ H2 hy ⟨v2, v3, v4, v5, rfl, e2, tabs2⟩
      obtain ⟨d, hd, dy⟩ := dpAll_get hd1 hy
      obtain ⟨dc, x, j, rfl, er, mw, hj1, hj2⟩ := nm d (List.mem_of_getElem? hd)
      obtain ⟨tt, zs, rfl, hTt, hZ⟩ := dp_tup (dp_ext e2 _ _ dy)
      cases hZ with
      | cons z1 hZ =>
      cases hZ with
      | cons z2 hZ =>
      cases hZ with
      | cons z3 hZ =>
      cases hZ
      cases z2
      cases z3
      rename_i thing
      refine ⟨tt, _, rfl, hTt, rfl, _, _, rfl, _, _, rfl, _, _, rfl, rfl, ?_⟩
      have okx := rw_ok (mw_rw mw)
      have okz := txt_ok hj1 hj2
      have due : ∀ {v : V} {H' : Hp} {D : Bool → Hp → Prop} {σ : L2.St} {u : Option V}, σ = [some (.ref c), some (.ref lo), some thing, some (.str x), some (.str (txtI j)), u] → Dp K H' v (saidD x (txtI j)) → (∀ H2, Same H' H2 → D false H2) →
          tTup (tCons (tLst (tCons (tVar 3) tNil)) (tCons (tVar 4) tNil)) σ H' fun u H2 => rNeD K v u H2 fun b H3 => ∃ z, b = .bl z ∧ D z H3 := by
        rintro v H' D σ u rfl hv hD
        refine ⟨_, rfl, by show 1 ≤ sizeLine; decide, fun l1 hl1 => ⟨_, rfl, by show 2 ≤ sizeLine; decide, fun p hp => ?_⟩⟩
        have s3 := same_upd (o := .lst [.str x]) hl1
        have s4 := same_upd (o := .tup [.ref l1, .str (txtI j)]) hp
        refine ⟨saidD x (txtI j), saidD x (txtI j), Dp.same (s3.trans s4) hv, .tup (.inl (.inl upd_same)) (.cons (.lst (.inl (.inl (s4 _ _ upd_same))) (.cons (.str _) .nil)) (.cons (.str _) .nil)), said_shaped okx okz, said_shaped okx okz, _, rfl, ?_⟩
        rw [said_eqv okx okz]
        exact hD _ (s3.trans s4)
      refine ⟨tabs2, fun H3 e3 t3 => ?_⟩
      have e13 := ExtN.trans e2 e3
      refine raised_int (mw_rw mw) (by omega) (fun E Q' r => ⟨_, rfl, _, rfl, _, .non, .ref lo, dc, .none, lotD S, rfl, dp_ext e3 _ _ z1, .non, dp_lot (ext_sqT e13 hS1), due_map er r⟩) fun v H4 s4 hv => ?_
      refine due rfl hv fun H5 s5 => iteF ?_
      have e15 := ExtN.trans e13 (ext_same (s4.trans s5))
      have t5 := tabs_same t3 (s4.trans s5)
      refine ⟨t5, fun H6 e6 t6 => ?_⟩
      have e16 := ExtN.trans e15 e6
      refine raised_int (mw_rw mw) (by omega) (fun E Q' r => ⟨_, rfl, _, rfl, _, .ref lo, .non, dc, lotD S, .none, rfl, dp_ext (ExtN.trans (ExtN.trans e3 (ext_same (s4.trans s5))) e6) _ _ z1, dp_lot (ext_sqT e16 hS1), .non, due_map er r⟩) fun v H7 s7 hv => ?_
      refine due rfl hv fun H8 s8 => iteF ?_
      exact ⟨_, _, _, _, rfl, ExtN.trans e16 (ext_same (s7.trans s8)), tabs_same t6 (s7.trans s8)⟩
    rintro σ H2 ⟨v2, v3, v4, v5, rfl, e2, tabs2⟩
    refine ⟨_, rfl, c, C, rfl, ext_chart e2 hC1, ok, fun t2 ys es H3 hT3 hd3 le bad s3 => ?_⟩
    have e3 := ExtN.trans e2 (ext_same s3)
    have ly := dpAll_length hd3
    refine ⟨_, rfl, lo, _, rfl, .inr (ext_sqT e3 hS1), fun la hla => ⟨by show 1 ≤ sizeLine; decide, fun lb hlb => ?_⟩⟩
    generalize eH4 : upd H3 la _ = H4 at hlb ⊢
    have s4 : Same H3 H4 := by rw [← eH4]; exact same_upd hla
    have hA4 : H4 la = some (.lst (S.map vN)) := by rw [← eH4]; exact upd_same
    clear eH4
    generalize eH5 : upd H4 lb _ = H5
    have s5 : Same H4 H5 := by rw [← eH5]; exact same_upd hlb
    have hB5 : H5 lb = some (.lst [.ref la]) := by rw [← eH5]; exact upd_same
    clear eH5
    have s35 := s4.trans s5
    refine ⟨t2, lb, _, _, rfl, rfl, s35 _ _ hT3, hB5, by rw [sizeLine_eq, ly, le]; show 11 + 1 ≤ 16777216; decide, fun t3 ht3 => ?_⟩
    generalize eH6 : upd H5 t3 _ = H6
    have s6 : Same H5 H6 := by rw [← eH6]; exact same_upd ht3
    have hT6 : H6 t3 = some (.lst (ys ++ [.ref la])) := by rw [← eH6]; exact upd_same
    clear eH6
    have e6 := ExtN.trans e3 (ext_same (s35.trans s6))
    have tabs6 := tabs_same (tabs_same tabs2 s3) (s35.trans s6)
    have hd6 : DpAll K H6 (ys ++ [.ref la]) (es ++ [.list (S.map nD)]) := dpAll_app (DpAll.same (s35.trans s6) hd3) (.cons (.lst (.inl (.inl (s6 _ _ (s5 _ _ hA4)))) (dp_nats S)) .nil)
    have bad6 : ∀ d ∈ es ++ [PyData.list (S.map nD)], lotOk C.n d = false := fun d hd => by
      rcases List.mem_append.mp hd with hd | hd
      · exact bad d hd
      · rw [List.mem_singleton.mp hd]
        rfl
    have hC6 := ext_chart e6 hC1
    have hS6 := ext_sqT e6 hS1
    have okL := rw_ok .lot
    have okM : PyData.strOk "-1" = true := by rw [← txt_m1]; exact txt_ok (by decide) (by decide)
    refine ⟨t3, rfl, ⟨_, .inl (.inl hT6)⟩, for_list (K := K) (xs := ys ++ [.ref la]) (fun i σ H' => ∃ v2 v3 v4 v5 : Option V, σ = [some (.ref c), some (.ref lo), v2, v3, v4, v5] ∧ ExtN H6 H' ∧ Tabs (lamT Pt) H') ⟨_, _, _, _, rfl, ExtN.refl _, tabs6⟩ (fun i σ H' _ ⟨_, _, _, _, _, e, _⟩ => ext_sqL e (.inl (.inl hT6))) ?_ ?_⟩
    · rintro i y σ H7 hy ⟨v2', v3', v4', v5', rfl, e7, tabs7⟩
      obtain ⟨d, hd, dy⟩ := dpAll_get hd6 hy
      have bd := bad6 d (List.mem_of_getElem? hd)
      refine ⟨tabs7, fun H8 e8 t8 => ?_⟩
      have e68 := ExtN.trans e7 e8
      refine raised_int (x := "BadLot") (i := -1) .lot (by decide) (fun E Q' r => ⟨_, rfl, _, rfl, _, rfl, .ref c, y, .ref lo, chartD C, d, lotD S, rfl, dp_ext e68 _ _ (dp_chart hC6), dp_ext e68 _ _ dy, dp_lot (ext_sqT e68 hS6), due_lot ok (.inl bd) r⟩) fun w1 H9 s9 hw1 => ⟨by show 1 ≤ sizeLine; decide, fun g hg => ?_⟩
      rw [txt_m1] at hw1
      obtain ⟨a1, _, rfl, _, _⟩ := dp_tup hw1
      have e69 := ExtN.trans e68 (ext_same s9)
      have t9 := tabs_same t8 s9
      have put : ∀ {H' : Hp} {o : HO}, ExtN H9 H' → ExtN H9 (upd H' g o) := fun {H' o} e b u eb n => by
        rw [upd_ne (ne_of_none eb hg)]
        exact e b u eb n
      generalize eH10 : upd H9 g _ = H10
      have s10 : Same H9 H10 := by rw [← eH10]; exact same_upd hg
      have hG10 : H10 g = some (.lst [.ref a1]) := by rw [← eH10]; exact upd_same
      clear eH10
      have hw1 := Dp.same s10 hw1
      have e10 : ExtN H9 H10 := ext_same s10
      have t10 := tabs_same t9 s10
      refine at_name ?_
      dsimp only
      have step : ∀ {H' : Hp} {zs : List V} {v : V}, H' g = some (.lst zs) → Tabs (lamT Pt) H' → Tabs (lamT Pt) (upd H' g (.lst (zs ++ [v]))) := fun {H' zs v} hz t => tabs_kp (ex := [g]) t kp_lst (fun b hb => by rw [List.mem_singleton.mp hb]; exact ⟨_, hz⟩)
      refine at_seq ⟨_, rfl, .inl ⟨rfl, _, .inl (.inl hG10)⟩, t10, fun H11 e11 t11 => ?_⟩
      have e911 := ExtN.trans e10 e11
      have e611 := ExtN.trans e69 e911
      refine raised_int (x := "BadLot") (i := -1) .lot (by decide) (fun E Q' r => ⟨_, rfl, _, rfl, _, rfl, .ref c, .ref lo, y, chartD C, lotD S, d, rfl, dp_ext e611 _ _ (dp_chart hC6), dp_lot (ext_sqT e611 hS6), dp_ext e611 _ _ dy, due_lot ok (.inr bd) r⟩) fun w2 H12 s12 hw2 => ?_
      rw [txt_m1] at hw2
      have hG12 : H12 g = some (.lst [.ref a1]) := s12 _ _ (e11 _ _ hG10 fun ps z => by cases z)
      have hw12 := Dp.same s12 (dp_ext e11 _ _ hw1)
      refine ⟨g, _, _, rfl, rfl, hG12, by show 1 < sizeLine; decide, ?_⟩
      have hw13 := said_keep (zs := [V.ref a1] ++ [w2]) hG12 (by simp) hw12
      have hw23 := said_keep (zs := [V.ref a1] ++ [w2]) hG12 (by simp) hw2
      have e13 : ExtN H9 (upd H12 g (.lst ([V.ref a1] ++ [w2]))) := put (ExtN.trans e911 (ext_same s12))
      have t13 := step (v := w2) hG12 (tabs_same t11 s12)
      generalize eH13 : upd H12 g _ = H13 at hw13 hw23 e13 t13 ⊢
      have hG13 : H13 g = some (.lst [V.ref a1, w2]) := by rw [← eH13]; exact upd_same
      clear eH13 hw12 hw2 hG12 hw1
      refine at_seq ⟨_, rfl, .inl ⟨rfl, _, .inl (.inl hG13)⟩, t13, fun H14 e14 t14 => ?_⟩
      have e914 := ExtN.trans e13 e14
      have e614 := ExtN.trans e69 e914
      refine raised_int (x := "BadLot") (i := -1) .lot (by decide) (fun E Q' r => ⟨_, rfl, _, rfl, _, rfl, .ref c, y, .ref lo, chartD C, d, lotD S, rfl, dp_ext e614 _ _ (dp_chart hC6), dp_ext e614 _ _ dy, dp_lot (ext_sqT e614 hS6), due_lot ok (.inl bd) r⟩) fun w3 H15 s15 hw3 => ?_
      rw [txt_m1] at hw3
      have hG15 : H15 g = some (.lst [V.ref a1, w2]) := s15 _ _ (e14 _ _ hG13 fun ps z => by cases z)
      have hw15 := Dp.same s15 (dp_ext e14 _ _ hw13)
      have hw25 := Dp.same s15 (dp_ext e14 _ _ hw23)
      refine ⟨g, _, _, rfl, rfl, hG15, by show 2 < sizeLine; decide, ?_⟩
      have hw16 := said_keep (zs := [V.ref a1, w2] ++ [w3]) hG15 (by simp) hw15
      have hw26 := said_keep (zs := [V.ref a1, w2] ++ [w3]) hG15 (by simp) hw25
      have hw36 := said_keep (zs := [V.ref a1, w2] ++ [w3]) hG15 (by simp) hw3
      have e16 : ExtN H9 (upd H15 g (.lst ([V.ref a1, w2] ++ [w3]))) := put (ExtN.trans e914 (ext_same s15))
      have t16 := step (v := w3) hG15 (tabs_same t14 s15)
      generalize eH16 : upd H15 g _ = H16 at hw16 hw26 hw36 e16 t16 ⊢
      have hG16 : H16 g = some (.lst [V.ref a1, w2, w3]) := by rw [← eH16]; exact upd_same
      clear eH16 hw15 hw25 hw3 hG15 hw13 hw23
      refine at_seq ⟨_, rfl, .inl ⟨rfl, _, .inl (.inl hG16)⟩, t16, fun H17 e17 t17 => ?_⟩
      have e917 := ExtN.trans e16 e17
      have e617 := ExtN.trans e69 e917
      refine raised_int (x := "BadLot") (i := -1) .lot (by decide) (fun E Q' r => ⟨_, rfl, _, rfl, _, rfl, .ref c, .ref lo, y, chartD C, lotD S, d, rfl, dp_ext e617 _ _ (dp_chart hC6), dp_lot (ext_sqT e617 hS6), dp_ext e617 _ _ dy, due_lot ok (.inr bd) r⟩) fun w4 H18 s18 hw4 => ?_
      rw [txt_m1] at hw4
      have hG18 : H18 g = some (.lst [V.ref a1, w2, w3]) := s18 _ _ (e17 _ _ hG16 fun ps z => by cases z)
      have hw18 := Dp.same s18 (dp_ext e17 _ _ hw16)
      have hw28 := Dp.same s18 (dp_ext e17 _ _ hw26)
      have hw38 := Dp.same s18 (dp_ext e17 _ _ hw36)
      refine ⟨g, _, _, rfl, rfl, hG18, by show 3 < sizeLine; decide, ?_⟩
      have hw19 := said_keep (zs := [V.ref a1, w2, w3] ++ [w4]) hG18 (by simp) hw18
      have hw29 := said_keep (zs := [V.ref a1, w2, w3] ++ [w4]) hG18 (by simp) hw28
      have hw39 := said_keep (zs := [V.ref a1, w2, w3] ++ [w4]) hG18 (by simp) hw38
      have hw49 := said_keep (zs := [V.ref a1, w2, w3] ++ [w4]) hG18 (by simp) hw4
      have e19 : ExtN H9 (upd H18 g (.lst ([V.ref a1, w2, w3] ++ [w4]))) := put (ExtN.trans e917 (ext_same s18))
      have t19 := step (v := w4) hG18 (tabs_same t17 s18)
      generalize eH19 : upd H18 g _ = H19 at hw19 hw29 hw39 hw49 e19 t19 ⊢
      have hG19 : H19 g = some (.lst [V.ref a1, w2, w3, w4]) := by rw [← eH19]; exact upd_same
      clear eH19 hw18 hw28 hw38 hw4 hG18 hw16 hw26 hw36
      refine ⟨_, rfl, by show 1 ≤ sizeLine; decide, fun m1 hm1 => ⟨by show 2 ≤ sizeLine; decide, fun m2 hm2 => ⟨by show 1 ≤ sizeLine; decide, fun m3 hm3 => ?_⟩⟩⟩
      generalize eH20 : upd H19 m1 _ = H20 at hm2 hm3 ⊢
      have s20 : Same H19 H20 := by rw [← eH20]; exact same_upd hm1
      have hM20 : H20 m1 = some (.lst [.str "BadLot"]) := by rw [← eH20]; exact upd_same
      clear eH20
      generalize eH21 : upd H20 m2 _ = H21 at hm3 ⊢
      have s21 : Same H20 H21 := by rw [← eH21]; exact same_upd hm2
      have hM21 : H21 m2 = some (.tup [.ref m1, .str "-1"]) := by rw [← eH21]; exact upd_same
      clear eH21
      generalize eH22 : upd H21 m3 _ = H22
      have s22 : Same H21 H22 := by rw [← eH22]; exact same_upd hm3
      have hM22 : H22 m3 = some (.lst [.ref m2]) := by rw [← eH22]; exact upd_same
      clear eH22
      refine ⟨m3, 4, _, rfl, rfl, hM22, by decide, by decide, by show 4 ≤ sizeLine; decide, fun m4 hm4 => ?_⟩
      generalize eH23 : upd H22 m4 _ = H23
      have s23 : Same H22 H23 := by rw [← eH23]; exact same_upd hm4
      have hM23 : H23 m4 = some (.lst [.ref m2, .ref m2, .ref m2, .ref m2]) := by rw [← eH23]; exact upd_same
      clear eH23
      have s1923 := ((s20.trans s21).trans s22).trans s23
      have dm : Dp K H23 (.ref m2) (saidD "BadLot" "-1") := Dp.same (s22.trans s23) (.tup (.inl (.inl hM21)) (.cons (.lst (.inl (.inl (s21 _ _ hM20))) (.cons (.str _) .nil)) (.cons (.str _) .nil)))
      obtain ⟨a, ea⟩ : ∃ a, saidD "BadLot" "-1" = a := ⟨_, rfl⟩
      have all : ∀ d ∈ [a, a, a, a], ∃ x z, d = saidD x z ∧ PyData.strOk x = true ∧ PyData.strOk z = true := fun d hd => by
        have : d = a := by
          simp only [List.mem_cons, List.not_mem_nil, or_false] at hd
          rcases hd with h | h | h | h <;> exact h
        exact ⟨"BadLot", "-1", by rw [this, ea], okL, okM⟩
      rw [ea] at hw19 hw29 hw39 hw49 dm
      refine ⟨.list [a, a, a, a], .list [a, a, a, a], .lst (.inl (.inl (s1923 _ _ hG19))) (.cons (Dp.same s1923 hw19) (.cons (Dp.same s1923 hw29) (.cons (Dp.same s1923 hw39) (.cons (Dp.same s1923 hw49) .nil)))), .lst (.inl (.inl hM23)) (.cons dm (.cons dm (.cons dm (.cons dm .nil)))), saids_shaped all, saids_shaped all, _, rfl, ?_⟩
      rw [saids_eqv all]
      refine iteF ?_
      exact ⟨_, _, _, _, rfl, ExtN.trans e69 (ExtN.trans e19 (ext_same s1923)), tabs_same t19 s1923⟩
    rintro σ H7 ⟨v2', v3', v4', v5', rfl, e7, tabs7⟩
    exact q _
end
end Ft

set_option Elab.async false
set_option linter.all false
set_option maxRecDepth 100000
set_option maxHeartbeats 8000000
namespace Ft
open PySem PySem.Spec PyProof.Rows L2
theorem ahead_mem {rs : List (Nat × Nat)} {W : List Nat} {b : Nat} : b ∈ (rs.filter fun p => decide (p.1 ∈ W)).map (·.2) ↔ ∃ x ∈ W, (x, b) ∈ rs := by
  simp only [List.mem_map, List.mem_filter, decide_eq_true_eq]
  constructor
  · rintro ⟨⟨x, y⟩, ⟨h1, h2⟩, rfl⟩
    exact ⟨x, h2, h1⟩
  · rintro ⟨x, h1, h2⟩
    exact ⟨(x, b), ⟨h2, h1⟩, rfl⟩
section
variable {P : Program} {w : World} {K : PySem.W.Frag} {mg : Str → Option Value} {base : Heap} {t1 t2 : Tok}
/-! ### _law_map_met -/
def sp_law_map_met (K : PySem.W.Frag) : Sp := fun vs H Q _ => ∃ (c : Addr) (C : Chart) (a : Nat), vs = [.ref c, vN a] ∧ IsChart K H c C ∧ C.Ok ∧ a < C.n ∧ ∀ q H', Same H H' → H q = none → H' q = some (.lst ((met C.n C.roads C.wished [a]).map vN)) → Q (.ref q) H'
end
end Ft

set_option Elab.async false
set_option linter.all false
set_option maxRecDepth 100000
set_option maxHeartbeats 4000000
/-! Plain mathematics: the pieces of a map, and rows in their order -/
namespace Ft
theorem piece_mem {C : Chart} {a b : Nat} (hw : a ∉ C.wished) : b ∈ pieceOf C a ↔ b < C.n ∧ b ∉ C.wished ∧ (b = a ∨ (Reach C.roads C.wished a b ∧ Reach C.roads C.wished b a)) := by
  unfold pieceOf
  rw [if_neg hw]
  exact those_mem
theorem piece_eq {C : Chart} {a b : Nat} (hb : b ∈ pieceOf C a) : pieceOf C b = pieceOf C a := by
  by_cases hw : a ∈ C.wished
  · have e : pieceOf C a = [a] := by
      unfold pieceOf
      rw [if_pos hw]
    rw [e] at hb
    rw [List.mem_singleton.mp hb]
  · obtain ⟨bn, bw, rel⟩ := (piece_mem hw).mp hb
    refine asc_ext (piece_up C b) (piece_up C a) fun x => ?_
    rw [piece_mem bw, piece_mem hw]
    constructor
    · rintro ⟨xn, xw, h⟩
      refine ⟨xn, xw, ?_⟩
      rcases rel with e | ⟨r1, r2⟩
      · rw [e] at h
        exact h
      · rcases h with e | ⟨q1, q2⟩
        · rw [e]
          exact .inr ⟨r1, r2⟩
        · exact .inr ⟨r1.trans bw q1, q2.trans bw r2⟩
    · rintro ⟨xn, xw, h⟩
      refine ⟨xn, xw, ?_⟩
      rcases rel with e | ⟨r1, r2⟩
      · rw [e]
        exact h
      · rcases h with e | ⟨q1, q2⟩
        · rw [e]
          exact .inr ⟨r2, r1⟩
        · exact .inr ⟨r2.trans hw q1, q2.trans hw r1⟩
theorem piecesL_mem {C : Chart} {l : List Nat} : l ∈ piecesL C ↔ ∃ a ∈ unw C, l = pieceOf C a := by
  unfold piecesL
  constructor
  · intro h
    obtain ⟨a, ha, rfl⟩ := List.mem_map.mp h
    exact ⟨a, (List.mem_filter.mp ha).1, rfl⟩
  · rintro ⟨a, ha, rfl⟩
    have ha' := unw_mem.mp ha
    cases e : pieceOf C a with
    | nil =>
      have := piece_self ha'.1
      rw [e] at this
      exact absurd this List.not_mem_nil
    | cons h rest =>
      have hh : h ∈ pieceOf C a := by
        rw [e]
        exact List.mem_cons_self
      have hm := (piece_mem ha'.2).mp hh
      have e2 := piece_eq hh
      refine List.mem_map.mpr ⟨h, List.mem_filter.mpr ⟨unw_mem.mpr ⟨hm.1, hm.2.1⟩, ?_⟩, by rw [e2, e]⟩
      unfold isLeast
      rw [e2, e]
      simp
/-- rows ascending as rows -/
def ltL (p q : List Int) : Prop := p ≤ q ∧ p ≠ q
theorem ltL_asym {p q : List Int} (h1 : ltL p q) (h2 : ltL q p) : False := h1.2 (List.le_antisymm h1.1 h2.1)
theorem rows_ext : ∀ {l1 l2 : List (List Int)}, l1.Pairwise ltL → l2.Pairwise ltL → (∀ x, x ∈ l1 ↔ x ∈ l2) → l1 = l2
  | [], [], _, _, _ => rfl
  | [], b :: l2, _, _, h => absurd ((h b).mpr List.mem_cons_self) List.not_mem_nil
  | a :: l1, [], _, _, h => absurd ((h a).mp List.mem_cons_self) List.not_mem_nil
  | a :: l1, b :: l2, h1, h2, h => by
    obtain ⟨a1, p1⟩ := List.pairwise_cons.mp h1
    obtain ⟨a2, p2⟩ := List.pairwise_cons.mp h2
    have e : a = b := by
      rcases List.mem_cons.mp ((h a).mp List.mem_cons_self) with e | m
      · exact e
      · rcases List.mem_cons.mp ((h b).mpr List.mem_cons_self) with e | m'
        · exact e.symm
        · exact (ltL_asym (a2 a m) (a1 b m')).elim
    subst e
    refine congrArg (a :: ·) (rows_ext p1 p2 fun x => ⟨fun m => ?_, fun m => ?_⟩)
    · rcases List.mem_cons.mp ((h x).mp (List.mem_cons_of_mem _ m)) with e | m'
      · exact ((a1 x m).2 e.symm).elim
      · exact m'
    · rcases List.mem_cons.mp ((h x).mpr (List.mem_cons_of_mem _ m)) with e | m'
      · exact ((a2 x m).2 e.symm).elim
      · exact m'
theorem cons_ltL {a b : Int} {p q : List Int} (h : a < b) : ltL (a :: p) (b :: q) := by
  refine ⟨List.cons_le_cons_iff.mpr (.inl h), fun e => ?_⟩
  injection e with e1 _
  omega
theorem piecesL_up (C : Chart) : ((piecesL C).map iN).Pairwise ltL := by
  unfold piecesL
  rw [List.map_map]
  refine List.pairwise_map.mpr ?_
  refine List.Pairwise.imp_of_mem (fun {a b} ha hb h => ?_) ((unw_up C).filter (isLeast C))
  have la := (List.mem_filter.mp ha).2
  have lb := (List.mem_filter.mp hb).2
  unfold isLeast at la lb
  have la := of_decide_eq_true la
  have lb := of_decide_eq_true lb
  show ltL (iN (pieceOf C a)) (iN (pieceOf C b))
  cases ea : pieceOf C a with
  | nil =>
    rw [ea] at la
    cases la
  | cons x p =>
    cases eb : pieceOf C b with
    | nil =>
      rw [eb] at lb
      cases lb
    | cons y q =>
      rw [ea] at la
      rw [eb] at lb
      have e1 : x = a := Option.some.inj la
      have e2 : y = b := Option.some.inj lb
      rw [e1, e2]
      exact cons_ltL (show (a : Int) < (b : Int) by omega)
theorem iN_inj : ∀ {l1 l2 : List Nat}, iN l1 = iN l2 → l1 = l2
  | [], [], _ => rfl
  | [], _ :: _, h => by simp [iN] at h
  | _ :: _, [], h => by simp [iN] at h
  | a :: l1, b :: l2, h => by
    unfold iN at h
    rw [List.map_cons, List.map_cons] at h
    injection h with h1 h2
    have e : a = b := by omega
    rw [e, iN_inj (l1 := l1) (l2 := l2) h2]
/-- what is met, one place more -/
theorem those_yes {j : Nat} {P : Nat → Prop} (h : P j) : those (j + 1) P = those j P ++ [j] := by
  unfold those
  rw [List.range_succ, List.filter_append]
  congr 1
  rw [List.filter_cons]
  simp [h]
theorem those_no {j : Nat} {P : Nat → Prop} (h : ¬ P j) : those (j + 1) P = those j P := by
  unfold those
  rw [List.range_succ, List.filter_append]
  simp [h]
theorem met_mem {n : Nat} {rs : List (Nat × Nat)} {ws : List Nat} {a b : Nat} : b ∈ met n rs ws [a] ↔ b < n ∧ Reach rs ws a b := by
  unfold met
  rw [those_mem]
  constructor
  · rintro ⟨h, x, hx, r⟩
    rw [List.mem_singleton.mp hx] at r
    exact ⟨h, r⟩
  · rintro ⟨h, r⟩
    exact ⟨h, a, List.mem_singleton.mpr rfl, r⟩
end Ft

set_option Elab.async false
set_option linter.all false
set_option maxRecDepth 100000
set_option maxHeartbeats 8000000
namespace Ft
open PySem PySem.Spec PyProof.Rows L2
/-- the rows of what each place comes to -/
structure TabAt (H : Hp) (C : Chart) (q : Addr) (rows : List Addr) : Prop where
  len : rows.length = C.n
  at_ : LotsAt H q rows fun a => met C.n C.roads C.wished [a]
theorem TabAt.same {H H' : Hp} (k : Same H H') {C : Chart} {q : Addr} {rows : List Addr} (h : TabAt H C q rows) : TabAt H' C q rows := ⟨h.len, k _ _ h.at_.top, fun a l e => k _ _ (h.at_.each a l e)⟩
theorem rows_at {K : PySem.W.Frag} {H : Hp} : ∀ {L : List Row} {lls : List (List Nat)}, L.map (·.2) = lls.map iN → (∀ p ∈ L, SqT K H p.1 (p.2.map V.int)) → RowsAt K H (L.map (·.1)) lls
  | [], [], _, _ => .nil
  | [], _ :: _, e, _ => by simp at e
  | _ :: _, [], e, _ => by simp at e
  | p :: L, l :: lls, e, h => by
    rw [List.map_cons, List.map_cons] at e
    injection e with e1 e2
    refine .cons ?_ (rows_at e2 fun q hq => h q (List.mem_cons_of_mem _ hq))
    have := h p List.mem_cons_self
    rw [e1, ← vN_map] at this
    exact this
section
variable {P : Program} {w : World} {K : PySem.W.Frag} {mg : Str → Option Value} {base : Heap} {t1 t2 : Tok}
/-! ### _law_map_table -/
def sp_law_map_table (K : PySem.W.Frag) : Sp := fun vs H Q _ => ∃ (c : Addr) (C : Chart), vs = [.ref c] ∧ IsChart K H c C ∧ C.Ok ∧ ∀ q rows H', Same H H' → H q = none → (∀ l ∈ rows, H l = none) → TabAt H' C q rows → Q (.ref q) H'
/-! ### _law_map_piece -/
def sp_law_map_piece (K : PySem.W.Frag) : Sp := fun vs H Q _ => ∃ (c tb : Addr) (C : Chart) (rows : List Addr) (a : Nat), vs = [.ref c, .ref tb, vN a] ∧ IsChart K H c C ∧ C.Ok ∧ a < C.n ∧ TabAt H C tb rows ∧ ∀ t H', Same H H' → SqT K H' t ((pieceOf C a).map vN) → Q (.ref t) H'
end
end Ft

set_option Elab.async false
set_option linter.all false
set_option maxRecDepth 100000
set_option maxHeartbeats 8000000
namespace Ft
open PySem PySem.Spec PyProof.Rows L2
section
variable {P : Program} {w : World} {K : PySem.W.Frag} {mg : Str → Option Value} {base : Heap} {t1 t2 : Tok}
/-! ### _law_map_lot -/
def sp_law_map_lot (K : PySem.W.Frag) : Sp := fun vs H Q _ => ∃ (p l c : Addr) (C : Chart), vs = [.ref p, .ref c] ∧ PoolAt H p l ∧ IsChart K H c C ∧ C.Ok ∧ ∀ (t : Addr) (U : List Nat) (H' : Hp), SqT K H' t (U.map vN) → Upto U C.n → PoolAt H' p l → Kp [p, l] H H' → Q (.ref t) H'
theorem cal_law_map_lot (T : Txt mg) (D : Def K mg "_law_map_lot" s_law_map_lot) (c_law_draw : Cal P w K mg base 2 "_law_draw" sp_law_draw) : Cal P w K mg base 3 "_law_map_lot" (sp_law_map_lot K) := by
  refine cal_of D sc_law_map_lot (fun _ _ _ _ _ _ us hl => match us, hl with | [_, _], _ => rfl) (fun vs H Q E h => ?_) (fun f cdv A outer s H vs Q E hr h => ?_)
  · obtain ⟨p, l, c, C, rfl, _⟩ := h
    rfl
  · obtain ⟨p, l, c, C, rfl, hP, ⟨r, wd, ts, hC⟩, ok, q⟩ := h
    have n60 := ok.n60
    refine ⟨_, (pss_cons (ps_set (i := 2) sc_law_map_lot.nd rfl (Or.inr rfl) (pe_c c_law_draw hr (by decide) (by rfl) (pa_cons (pv 0) (pa_cons pe_int pa_nil))))
      (pss_cons (ps_if (pt_cmpR op_eq (pv 2) pe_int (nomark _)) (pss_one (ps_ret (pe_ifExp (pt_cmpR op_eq (pe_c c_law_draw hr (by decide) (by rfl) (pa_cons (pv 0) (pa_cons pe_int pa_nil))) pe_int (nomark _)) (pe_tup pa_nil) (pe_tupRg rfl (by rfl) T.tuple (prg_1 (by rfl) T.range (pe_ix (show IxR _ (rIxT K) from ix_tup) (pv 1) pe_int (fun _ _ => rfl))))))) pss_nil)
      (pss_one (ps_ret (pe_callTy (show CallR _ _ (rTupleOf K) from call_tupleOf) (by rfl) T.tuple (by decide +kernel) (pa_cons (pe_lc (own := [("a", 3)]) rfl sc_law_map_lot.nd (pi_range1 (by rfl) T.range (pa_cons (pe_ix (show IxR _ (rIxT K) from ix_tup) (pv 1) pe_int (fun _ _ => rfl)) pa_nil)) (blkOk_by (N := ["pool", "chart", "way", "a"]) (sc := L2.defScope s_law_map_lot) (by decide +kernel)) (fun _ _ _ _ _ => (pg_name (i := 3) sc_law_map_lot.nd rfl (Or.inl rfl))) (fun _ _ _ _ _ => pts_one (pt_mid (pt_cond (pt_cmpR op_eq (pv 2) pe_int (nomark _)) (pt_cmpR op_gt (pe_c c_law_draw hr (by decide) (by rfl) (pa_cons (pv 0) (pa_cons pe_int pa_nil))) pe_int (nomark _)) (pt_cmpR op_eq (pe_c c_law_draw hr (by decide) (by rfl) (pa_cons (pv 0) (pa_cons (pe_op op_add pe_int (pv 2)) pa_nil))) pe_int (nomark _))))) (fun _ _ _ _ _ => (pv 3))) pa_nil)))))), ?_⟩
    refine ⟨_, rfl, p, l, 6, rfl, hP, by decide, by decide, fun way H1 hway hP1 k1 => ?_⟩
    have hC1 : ChartAt K H1 c C r wd ts := hC.keep k1 hP.lists
    refine ⟨_, rfl, rfl, _, rfl, ite_any (fun _ => ?_) (fun hw => ?_)⟩
    · refine ⟨_, rfl, p, l, 2, rfl, hP1, by decide, by decide, fun y H2 hy hP2 k2 => ?_⟩
      have hC2 : ChartAt K H2 c C r wd ts := hC1.keep k2 hP1.lists
      refine ⟨rfl, _, rfl, ite_any (fun _ => ?_) (fun _ => ?_)⟩
      · refine ⟨Nat.zero_le _, fun t ht => ?_⟩
        exact q t [] _ (.inl (.inl upd_same)) (Upto.nil _) (hP2.same (same_upd ht)) ((k1.trans k2).trans (Same.kp (same_upd ht)))
      · refine ⟨_, rfl, _, _, _, _, rfl, rfl, hC2.top, rfl, _, rfl, .of_le (by omega) (by omega) (by omega) (by omega), fun t ht => ?_⟩
        exact q t (List.range C.n) _ (.inl (.inl (by rw [upd_same, rgV_nat]))) (upto_range _) (hP2.same (same_upd ht)) ((k1.trans k2).trans (Same.kp (same_upd ht)))
    · refine ⟨_, rfl, _, _, _, _, rfl, rfl, hC1.top, rfl, _, rfl, by omega, by omega, fun e he => ?_⟩
      have epl : e ∉ [p, l] := hP1.free he
      refine lc_range (lo := 0) (n := C.n) (fun i H' => ∃ G : List Nat, Kp [p, l, e] H1 H' ∧ H' e = some (.lst (G.map vN)) ∧ PoolAt H' p l ∧ Upto G i)
        ⟨[], (fun b o x e' => by rw [upd_ne (ne_of_none e' he)]; exact e'), upd_same, hP1.same (same_upd he), Upto.nil 0⟩ ?_ ?_
      · rintro i H4 hi ⟨G, k4, hE, hP4, hG⟩
        have e0 : (0 : Int) + (i : Nat) = (i : Nat) := by omega
        refine ⟨rfl, ?_⟩
        rw [e0]
        refine ⟨fun _ H' => PoolAt H' p l ∧ Kp [p, l] H4 H', ⟨_, rfl, rfl, _, rfl, ite_any (fun _ => ?_) (fun _ => ?_)⟩, ?_⟩
        · exact ⟨_, rfl, p, l, 4, rfl, hP4, by decide, by decide, fun y H5 _ hP5 k5 => ⟨_, _, rfl, rfl, _, rfl, hP5, k5⟩⟩
        · exact ⟨_, rfl, _, rfl, _, _, rfl, rfl, p, l, 1 + way, rfl, hP4, by omega, by omega, fun y H5 _ hP5 k5 => ⟨rfl, _, rfl, hP5, k5⟩⟩
        rintro b H5 ⟨hP5, k5⟩
        have k45 : Kp [p, l, e] H1 H5 := fun b o nb eb => k5 _ _ (fun m => nb (by simp only [List.mem_cons, List.not_mem_nil, or_false] at m ⊢; rcases m with m | m <;> simp [m])) (k4 b o nb eb)
        have hE5 := k5 _ _ epl hE
        refine ite_any (fun _ => ?_) (fun _ => ?_)
        · refine ⟨_, rfl, _, hE5, by rw [List.length_map]; exact small1000 (by have := hG.len; omega), G ++ [i], ?_, by rw [upd_same, List.map_append]; rfl, hP5.set epl, hG.more⟩
          intro b o nb eb
          rw [upd_ne (fun z => nb (by rw [z]; simp))]
          exact k45 b o nb eb
        · exact ⟨G, k45, hE5, hP5, hG.wider⟩
      · rintro H4 ⟨G, k4, hE, hP4, hG⟩
        have k34 : Kp [p, l] H H4 := kp_made k1 he k4
        refine ⟨e, _, rfl, .inl ⟨.inl (.inl hE), fun t ht => ?_⟩⟩
        exact q t G _ (.inl (.inl upd_same)) hG (hP4.same (same_upd ht)) (k34.trans (Same.kp (same_upd ht)))
/-! ### _law_map_standing -/
def sp_law_map_standing (K : PySem.W.Frag) : Sp := fun vs H Q _ => ∃ (p l c : Addr) (C : Chart) (most : Nat), vs = [.ref p, .ref c, vN most] ∧ PoolAt H p l ∧ IsChart K H c C ∧ C.Ok ∧ 0 < C.n ∧ 0 < most ∧ most ≤ 9 ∧ ∀ (t : Addr) (S : List Nat) (H' : Hp), SqT K H' t (S.map vN) → (∀ x ∈ S, x < C.n) → 1 ≤ S.length → S.length ≤ most → PoolAt H' p l → Kp [p, l] H H' → Q (.ref t) H'
end
end Ft

set_option Elab.async false
set_option linter.all false
set_option maxRecDepth 100000
set_option maxHeartbeats 8000000
namespace Ft
open PySem PySem.Spec PyProof.Rows L2
open LamX (TabB TabS Tabs ExtN CodeO)
theorem few_roads {C : Chart} (ok : C.Ok) (n6 : C.n ≤ 6) : C.roads.length < 240 := by
  have nd : C.roads.Nodup := ok.upR.imp fun {a b} hab (e : a = b) => by
    subst e
    unfold ltP at hab
    omega
  have nd2 : (C.roads.map fun p => p.1 * 6 + p.2).Nodup := by
    refine List.pairwise_map.mpr (nd.imp_of_mem fun {a b} ha hb ne e => ne ?_)
    have h1 := ok.inR a ha
    have h2 := ok.inR b hb
    exact Prod.ext (by omega) (by omega)
  have := len_of_lt _ 36 nd2 fun x hx => by
    obtain ⟨p, hp, rfl⟩ := List.mem_map.mp hx
    have := ok.inR p hp
    omega
  rw [List.length_map] at this
  omega
section
variable {P : Program} {w : World} {K : PySem.W.Frag} {mg : Str → Option Value} {base : Heap} {ca : Str → Addr} {Pt : Addr}
def sp_law (K : PySem.W.Frag) (Pt : Addr) : Sp := fun vs H Q _ => ∃ (a : Addr) (ns : List Int), vs = [.ref a] ∧ SqL K H a (ns.map V.int) ∧ Tabs (lamT Pt) H ∧ ∀ H', Q (.bl true) H'
theorem fn_law {f : Addr} {fd : FuncData} (T : Txt mg) (F : L2.Fun K "law" "law" s_law f fd) (c_law_pool : Cal P w K mg base 2 "_law_pool" (sp_law_pool K)) (c_law_map_drawn : Cal P w K mg base 5 "_law_map_drawn" (sp_law_map_drawn K)) (c_law_map_lot : Cal P w K mg base 3 "_law_map_lot" (sp_law_map_lot K))
    (c_law_listed : Cal P w K mg base 2 "_law_listed" (sp_law_listed K)) (c_law_told : CalG P w K mg base 8 "_law_told" (sp_law_told K)) (c_law_chain : CalG P w K mg base 9 "_law_chain" (sp_law_chain K)) (c_law_refused : CalG P w K mg base 20 "_law_refused" (sp_law_refused K Pt)) : FnG P w K mg base 21 f fd ["script"] (sp_law K Pt) := by
  refine gfun F sc_law (fun vs H Q E h => ?_) (fun cdv A outer s H vs Q E hg hr h => ?_)
  · obtain ⟨a, ns, rfl, _⟩ := h
    rfl
  · obtain ⟨sa, ns, rfl, hS, tabs, q⟩ := h
    have hU := hr.units
    have hG := hg
    refine ⟨_, (pss_cons (ps_set (i := 1) sc_law.nd rfl (Or.inl rfl) (pe_c c_law_pool hr (by decide) (by rfl) (pa_cons (pv 0) pa_nil)))
      (pss_cons (ps_set (i := 2) sc_law.nd rfl (Or.inr rfl) (pe_c c_law_map_drawn hr (by decide) (by rfl) (pa_cons (pv 1) (pa_cons pe_int pa_nil))))
      (pss_cons (ps_par (i := 3) (j := 4) (by rfl) sc_law.nd rfl rfl (by decide) rfl rfl (pa_cons (pe_c c_law_map_lot hr (by decide) (by rfl) (pa_cons (pv 1) (pa_cons (pv 2) pa_nil))) (pa_cons (pe_c c_law_map_lot hr (by decide) (by rfl) (pa_cons (pv 1) (pa_cons (pv 2) pa_nil))) pa_nil)) (by rfl))
      (pss_cons (ps_set (i := 5) sc_law.nd rfl (Or.inl rfl) (pe_callTy (show CallR _ _ (rTupleOf K) from call_tupleOf) (by rfl) T.tuple (by decide +kernel) (pa_cons (pe_lc (own := [("p", 7)]) rfl sc_law.nd (show PI _ _ _ (iTup K _) from pi_tup (pv 4)) (blkOk_by (N := ["script", "pool", "chart", "lot", "some", "inner", "traps", "p"]) (sc := L2.defScope s_law) (by decide +kernel)) (fun _ _ _ _ _ => (pg_name (i := 7) sc_law.nd rfl (Or.inl rfl))) (fun _ _ _ _ _ => pts_one (pt_cmpR (show OpR _ _ (rIn K true) from op_notIn_seq) (pv 7) (pe_ix (show IxR _ (rIxT K) from ix_tup) (pv 2) pe_int (fun _ _ => rfl)) (by rfl))) (fun _ _ _ _ _ => (pv 7))) pa_nil)))
      (pss_cons (ps_for PassesOwn.never rfl (show PI _ _ _ (iList K _) from pi_list (pe_lst (pa_cons (pe_tup pa_nil) (pa_cons (pv 3) (pa_cons (pv 4) (pa_cons (pv 5) pa_nil)))))) (pg_name (i := 6) sc_law.nd rfl (Or.inl rfl)) (pss_one (ps_if (pt_not (pt_val (pe_g c_law_told hG hr (by decide) (by rfl) (pa_cons (pv 2) (pa_cons (pv 6) (pa_cons (pv 3) (pa_cons (pe_c c_law_listed hr (by decide) (by rfl) (pa_cons (pv 2) (pa_cons (pv 6) (pa_cons (pv 3) pa_nil)))) pa_nil))))))) (pss_one (ps_ret pe_bl)) pss_nil)))
      (pss_one (ps_ret (pe_and (pe_g c_law_chain hG hr (by decide) (by rfl) (pa_cons (pv 1) pa_nil)) (pe_one (pe_g c_law_refused hG hr (by decide) (by rfl) (pa_cons (pv 2) (pa_cons (pv 3) pa_nil)))))))))))), ?_⟩
    refine ⟨_, rfl, sa, ns, rfl, hS, fun p l H1 s1 _ _ hP1 => ?_⟩
    have pl : ∀ {H' : Hp}, PoolAt H' p l → ∀ b ∈ [p, l], ∃ xs, H' b = some (.lst xs) := fun {H'} hP b hb => by
      obtain ⟨_, _, _, h1, h2, _⟩ := hP
      simp only [List.mem_cons, List.not_mem_nil, or_false] at hb
      rcases hb with rfl | rfl
      · exact ⟨_, h1⟩
      · exact ⟨_, h2⟩
    have tabs1 := tabs_same tabs s1
    refine ⟨_, rfl, p, l, 6, rfl, hP1, by decide, fun c C H2 hC2 ok n6 hP2 k2 => ?_⟩
    have tabs2 := tabs_kp tabs1 k2 (pl hP1)
    refine ⟨_, rfl, _, rfl, p, l, c, C, rfl, hP2, hC2, ok, fun lo S H3 hS3 upS hP3 k3 => ?_⟩
    have tabs3 := tabs_kp tabs2 k3 (pl hP2)
    have hC3 := hC2.keep k3 hP2.lists
    refine ⟨_, rfl, _, rfl, p, l, c, C, rfl, hP3, hC3, ok, fun so S2 H4 hO4 upO hP4 k4 => ⟨_, _, rfl, ?_⟩⟩
    have tabs4 := tabs_kp tabs3 k4 (pl hP3)
    have hC4 := hC3.keep k4 hP3.lists
    have hS4 := k4.sqT hP3.lists hS3
    obtain ⟨r, wd, ts, hA4⟩ := id hC4
    refine ⟨_, rfl, so, rfl, ⟨_, hO4⟩, fun D hD => ?_⟩
    refine lc_tup (K := K) (xs := S2.map vN) (fun i H' => Kp [D] H4 H' ∧ H' D = some (.lst (((S2.take i).filter fun b => !decide (b ∈ C.wished)).map vN)))
      ⟨(fun b o nb e' => by rw [upd_ne (ne_of_none e' hD)]; exact e'), upd_same⟩ (fun i H' _ ⟨k, _⟩ => Same.sqT (kp_same hD k) hO4) ?_ ?_
    · rintro i x H5 hx ⟨k5, hD5⟩
      obtain ⟨b, hb, rfl⟩ := get_map hx
      have iS : i < S2.length := (List.getElem?_eq_some_iff.mp hb).1
      have n60 := ok.n60
      have l60 : S2.length ≤ C.n := up_len upO.1 upO.2
      have s5 := kp_same hD k5
      have hA5 := hA4.same s5
      refine ⟨rfl, ?_⟩
      refine ⟨_, rfl, _, rfl, _, _, _, _, rfl, rfl, hA5.top, rfl, wd, _, rfl, .inr hA5.wis, rfl, all_vN C.wished, _, rfl, ?_⟩
      show if (!inV (vN b) (C.wished.map vN)) = true then _ else _
      rw [in_vN]
      by_cases h1 : b ∈ C.wished
      · rw [decide_eq_true h1]
        refine iteF ⟨k5, ?_⟩
        rw [take_filter hb, decide_eq_true h1, if_neg (by simp), List.append_nil]
        exact hD5
      · rw [decide_eq_false h1]
        refine iteT ?_
        have lf := List.length_filter_le (fun b => !decide (b ∈ C.wished)) (S2.take i)
        rw [List.length_take] at lf
        refine ⟨_, rfl, _, hD5, by rw [List.length_map, sizeLine_eq]; omega, kp_put k5, ?_⟩
        rw [upd_same, take_filter hb, decide_eq_false h1, if_pos (by simp), List.map_append]
        rfl
    rintro H5 ⟨k5, hD5⟩
    rw [List.length_map, List.take_length] at hD5
    have s5 := kp_same hD k5
    refine ⟨D, _, rfl, .inl ⟨.inl (.inl hD5), fun io hio => ?_⟩⟩
    generalize eH6 : upd H5 io _ = H6
    have s6 : Same H5 H6 := by rw [← eH6]; exact same_upd hio
    have hI6 : SqT K H6 io ((S2.filter fun b => !decide (b ∈ C.wished)).map vN) := by rw [← eH6]; exact .inl (.inl upd_same)
    clear eH6
    have s46 := s5.trans s6
    refine at_name ?_
    dsimp only
    refine at_seq ⟨Nat.zero_le _, fun em hem => ?_⟩
    generalize eH7 : upd H6 em _ = H7
    have s7 : Same H6 H7 := by rw [← eH7]; exact same_upd hem
    have hE7 : SqT K H7 em (([] : List Nat).map vN) := by rw [← eH7]; exact .inl (.inl upd_same)
    clear eH7
    refine ⟨_, rfl, _, rfl, _, rfl, by show 4 ≤ sizeLine; decide, fun g hg => ?_⟩
    generalize eH8 : upd H7 g _ = H8
    have s8 : Same H7 H8 := by rw [← eH8]; exact same_upd hg
    have hG8 : H8 g = some (.lst [.ref em, .ref lo, .ref so, .ref io]) := by rw [← eH8]; exact upd_same
    clear eH8
    have s48 := (s46.trans s7).trans s8
    have hC8 := hC4.same s48
    have hS8 := Same.sqT s48 hS4
    have hP8 := hP4.same s48
    have tabs8 := tabs_same tabs4 s48
    refine ⟨g, rfl, ⟨_, .inl (.inl hG8)⟩, for_list (K := K) (xs := [V.ref em, .ref lo, .ref so, .ref io]) (fun i σ H' => ∃ v6 v7 : Option V, σ = [some (.ref sa), some (.ref p), some (.ref c), some (.ref lo), some (.ref so), some (.ref io), v6, v7] ∧ Same H8 H') ⟨_, _, rfl, Same.rfl' _⟩ (fun i σ H' _ ⟨_, _, _, s⟩ => .inl (.inl (s _ _ hG8))) ?_ ?_⟩
    · rintro i y σ H9 hy ⟨v6, v7, rfl, s9⟩
      obtain ⟨tr, U, rfl, hT9, upU, inU⟩ : ∃ (tr : Addr) (U : List Nat), y = .ref tr ∧ SqT K H9 tr (U.map vN) ∧ U.Pairwise (· < ·) ∧ ∀ x ∈ U, x < C.n := by
        match i, hy with
        | 0, hy => cases hy; exact ⟨em, [], rfl, Same.sqT (s8.trans s9) hE7, .nil, fun _ h => nomatch h⟩
        | 1, hy => cases hy; exact ⟨lo, S, rfl, Same.sqT s9 hS8, upS.1, upS.2⟩
        | 2, hy => cases hy; exact ⟨so, S2, rfl, Same.sqT (s48.trans s9) hO4, upO.1, upO.2⟩
        | 3, hy => cases hy; exact ⟨io, _, rfl, Same.sqT ((s7.trans s8).trans s9) hI6, upO.1.filter _, fun x hx => upO.2 x (List.mem_filter.mp hx).1⟩
        | n + 4, hy => cases hy
      have hC9 := hC8.same s9
      have hS9 := Same.sqT s9 hS8
      refine ⟨_, rfl, _, rfl, _, rfl, _, rfl, _, rfl, _, rfl, c, tr, lo, C, U, S, rfl, hC9, ok, n6, hT9, hS9, upS.2, upS.1, fun v o H10 s10 hv due => ?_⟩
      refine ⟨c, tr, lo, C, U, S, v, o, rfl, hC9.same s10, ok, Same.sqT s10 hT9, inU, upU, Same.sqT s10 hS9, upS.2, upS.1, hv, due, fun H11 s11 => ⟨_, rfl, iteF ?_⟩⟩
      exact ⟨_, _, rfl, (s9.trans s10).trans s11⟩
    · rintro σ H9 ⟨v6, v7, rfl, s9⟩
      refine ⟨_, rfl, p, l, rfl, hP8.same s9, fun H10 hP10 k10 => ⟨_, rfl, iteT ?_⟩⟩
      have hP9 := hP8.same s9
      exact ⟨_, rfl, _, rfl, c, lo, C, S, rfl, (hC8.same s9).keep k10 hP9.lists, ok, few_roads ok n6, k10.sqT hP9.lists (Same.sqT s9 hS8), upS.2, upS.1, tabs_kp (tabs_same tabs8 s9) k10 (pl hP9), q⟩
end
end Ft

set_option Elab.async false
set_option linter.all false
set_option maxRecDepth 100000
set_option maxHeartbeats 8000000
namespace Ft
open PySem PySem.Spec PyProof.Rows L2
open LamX (TabB TabS Tabs ExtN CodeO)
/-! ### all together -/
theorem def_mk {K : PySem.W.Frag} {h : Heap} {mg : Str → Option Value} {x : Str} {st : Stmt} {f : Addr} {oc : Value} {od an : Option Addr} {osl : Array (Option Value)} {kV doc pm cdv ct : Value} (X : K.In h) (G : h.Ns mainGlobals mg) (a : PySem.W.nsIn K mainGlobals x = some (some (.ref f)))
    (l : K.lookup f = some ⟨oc, od, .func (PySem.W.fnOf x x (L2.defArgs st) (L2.defBody st) (L2.defScope st) .none kV doc pm an cdv ct), osl⟩) (c : PySem.W.codeIn K cdv x = true) (k : PySem.W.keepIn K (.ref f) = true) : Def K mg x st :=
  ⟨f, _, fun_mk l c k, PySem.W.mg_of X G a⟩
theorem defT_mk {K : PySem.W.Frag} {h : Heap} {mg : Str → Option Value} {x : Str} {st : Stmt} {f cc : Addr} {oc : Value} {od an : Option Addr} {osl : Array (Option Value)} {kV doc pm ct : Value} (X : K.In h) (G : h.Ns mainGlobals mg) (a : PySem.W.nsIn K mainGlobals x = some (some (.ref f)))
    (l : K.lookup f = some ⟨oc, od, .func (PySem.W.fnOf x x (L2.defArgs st) (L2.defBody st) (L2.defScope st) .none kV doc pm an (.ref cc) ct), osl⟩) (c : PySem.W.codeIn K (.ref cc) x = true) (k : PySem.W.keepIn K (.ref f) = true) : DefT K mg x st cc :=
  ⟨f, oc, od, kV, doc, pm, an, ct, osl, l, c, k, PySem.W.mg_of X G a⟩
theorem txt_mk {K : PySem.W.Frag} {h : Heap} {mg : Str → Option Value} (X : K.In h) (G : h.Ns mainGlobals mg) (z0 : PySem.W.nsIn K mainGlobals "isinstance" = some none) (z1 : PySem.W.nsIn K mainGlobals "len" = some none) (z2 : PySem.W.nsIn K mainGlobals "tuple" = some none) (z3 : PySem.W.nsIn K mainGlobals "int" = some none) (z4 : PySem.W.nsIn K mainGlobals "bool" = some none) (z5 : PySem.W.nsIn K mainGlobals "enumerate" = some none) (z6 : PySem.W.nsIn K mainGlobals "range" = some none) (z7 : PySem.W.nsIn K mainGlobals "set" = some none) (z8 : PySem.W.nsIn K mainGlobals "list" = some none) (z9 : PySem.W.nsIn K mainGlobals "sorted" = some none) (z10 : PySem.W.nsIn K mainGlobals "min" = some none) (z11 : PySem.W.nsIn K mainGlobals "max" = some none) (z12 : PySem.W.nsIn K mainGlobals "repr" = some none) (z13 : PySem.W.nsIn K mainGlobals "dict" = some none) (z14 : PySem.W.nsIn K mainGlobals "str" = some none) (z15 : PySem.W.nsIn K mainGlobals "any" = some none) (z16 : PySem.W.nsIn K mainGlobals "all" = some none) (z17 : PySem.W.nsIn K mainGlobals "sum" = some none) (z18 : PySem.W.nsIn K mainGlobals "zip" = some none) : Txt mg :=
  ⟨PySem.W.mg_none_of X G z0, PySem.W.mg_none_of X G z1, PySem.W.mg_none_of X G z2, PySem.W.mg_none_of X G z3, PySem.W.mg_none_of X G z4, PySem.W.mg_none_of X G z5, PySem.W.mg_none_of X G z6, PySem.W.mg_none_of X G z7, PySem.W.mg_none_of X G z8, PySem.W.mg_none_of X G z9, PySem.W.mg_none_of X G z10, PySem.W.mg_none_of X G z11, PySem.W.mg_none_of X G z12, PySem.W.mg_none_of X G z13, PySem.W.mg_none_of X G z14, PySem.W.mg_none_of X G z15, PySem.W.mg_none_of X G z16, PySem.W.mg_none_of X G z17, PySem.W.mg_none_of X G z18⟩
theorem mgI_mk {K : PySem.W.Frag} {h : Heap} {mg : Str → Option Value} {x : Str} {n : Int} {t : Tok} (X : K.In h) (G : h.Ns mainGlobals mg) (a : PySem.W.nsIn K mainGlobals x = some (some (.int n t))) : MgI mg x n := ⟨t, PySem.W.mg_of X G a⟩
theorem ok_init {P : Program} {w : World} {K : PySem.W.Frag} {mg : Str → Option Value} {base : Heap} {fI : Addr} {fd : FuncData} (F : L2.Fun K "__init__" "Refused.__init__" s_init fI fd) : FnOk P w K mg base L2.CX0 1 fI fd ["self", "what"] (spInit K) := by
  refine F.ok sc_init (fun vs H Q E h => ?_) (fun cdv A outer s H vs Q E hr h => ?_)
  · obtain ⟨a, C, v, rfl, _⟩ := h
    rfl
  · obtain ⟨a, C, v, rfl, oe, no, ha, q⟩ := h
    refine ⟨_, (pss_one (ps_ost (pv 0) (pv 1))), ?_⟩
    exact ⟨_, rfl, _, rfl, a, C, rfl, oe, no, .inl ⟨ha, fun dx n ne => q dx n ne⟩⟩
/-- what the head tells of a class of errors -/
structure ErrH (K : PySem.W.Frag) (C fI : Addr) (x : Str) : Prop where
  a : PySem.W.nsIn K mainGlobals x = some (some (.ref C))
  cl : ∃ nm q N bs bm sn sub ab col dd k0 k1 k2 k3 k5, K.lookup C = some (excClassObj nm q C N bs bm true sn sub ab col dd k0 k1 k2 k3 k5 "ValueError.__new__") ∧ PySem.HandSPX.refsVE bm = true
  sa : PySem.W.findIn K (.ref C) "__setattr__" = some (some (.builtin "object.__setattr__"))
  ga : PySem.W.findIn K (.ref C) "__getattribute__" = some (some (.builtin "BaseException.__getattribute__"))
  gg : PySem.W.findIn K (.ref C) "__getattr__" = some none
  nw : PySem.W.findIn K (.ref C) "what" = some none
  ii : PySem.W.findIn K (.ref C) "__init__" = some (some (.ref fI))
  ex : PySem.W.subIn K (.ref C) (.type "BaseException") = some true
  ty : PySem.W.typeIn K (.ref C) = some (.type "type")
  kp : PySem.W.keepIn K (.ref C) = true
  hd : PySem.W.hasDictIn K C = true
  ic : PySem.W.isClsIn K C = true
theorem errH_mk {K : PySem.W.Frag} {C fI : Addr} {x : Str} {nm q : Str} {N : Addr} {bs bm : List Value} {sn : List Str} {sub : List Value} {ab : Bool} {col : Option Bool} {dd : Option Addr} {k0 k1 k2 k3 k5 : Option Value}
    (a : PySem.W.nsIn K mainGlobals x = some (some (.ref C))) (cl : K.lookup C = some (excClassObj nm q C N bs bm true sn sub ab col dd k0 k1 k2 k3 k5 "ValueError.__new__")) (r : PySem.HandSPX.refsVE bm = true)
    (sa : PySem.W.findIn K (.ref C) "__setattr__" = some (some (.builtin "object.__setattr__"))) (ga : PySem.W.findIn K (.ref C) "__getattribute__" = some (some (.builtin "BaseException.__getattribute__"))) (gg : PySem.W.findIn K (.ref C) "__getattr__" = some none) (nw : PySem.W.findIn K (.ref C) "what" = some none)
    (ii : PySem.W.findIn K (.ref C) "__init__" = some (some (.ref fI))) (ex : PySem.W.subIn K (.ref C) (.type "BaseException") = some true) (ty : PySem.W.typeIn K (.ref C) = some (.type "type")) (kp : PySem.W.keepIn K (.ref C) = true) (hd : PySem.W.hasDictIn K C = true) (ic : PySem.W.isClsIn K C = true) : ErrH K C fI x :=
  ⟨a, ⟨nm, q, N, bs, bm, sn, sub, ab, col, dd, k0, k1, k2, k3, k5, cl, r⟩, sa, ga, gg, nw, ii, ex, ty, kp, hd, ic⟩
theorem er_mk {P : Program} {w : World} {K : PySem.W.Frag} {h : Heap} {mg : Str → Option Value} {base : Heap} {ca : Str → Addr} {x : Str} {C fI : Addr} {fd : FuncData} (X : K.In h) (G : h.Ns mainGlobals mg) (e : ErrH K C fI x) (tI : PySem.W.typeIn K (.ref fI) = some (.type "function")) (F : L2.Fun K "__init__" "Refused.__init__" s_init fI fd)
    (b : Binds K fd ["self", "what"] []) (hc : ca x = C) : Er P w K mg base ca x := by
  subst hc
  exact ⟨fI, fd, ⟨PySem.W.mg_of X G e.a, ⟨e.cl, e.sa, e.ex, e.ty, e.kp⟩, e.ii, tI, e.nw, ⟨e.ga, e.gg, e.ex, e.hd⟩⟩, ok_init F, b⟩
theorem exm_mk {K : PySem.W.Frag} {ca : Str → Addr} {x y : Str} {C D fI fJ : Addr} {b : Bool} (e : ErrH K D fJ y) (h : PySem.W.subIn K (.ref C) (.ref D) = some b) (hc : ca x = C) (hd : ca y = D) : Exm K ca x y b := by
  subst hc hd
  unfold Exm
  have h1 : (PySem.W.subIn K (.ref (ca y)) (.type "BaseException") == some true) = true := by rw [e.ex]; rfl
  have h2 : ((PySem.W.clsIn K (ca y)).isSome && PySem.W.typeIn K (.ref (ca y)) == some (.type "type")) = true := by
    have z : (PySem.W.clsIn K (ca y)).isSome = true := e.ic
    rw [z, e.ty]
    rfl
  show (if (PySem.W.subIn K (.ref (ca y)) (.type "BaseException") == some true) = true then (if ((PySem.W.clsIn K (ca y)).isSome && PySem.W.typeIn K (.ref (ca y)) == some (.type "type")) = true then PySem.W.subIn K (.ref (ca x)) (.ref (ca y)) else none) else none) = some b
  rw [if_pos h1, if_pos h2]
  exact h
def caOf (l : List (Str × Addr)) (x : Str) : Addr := (l.lookup x).getD 0
theorem all_mk {l : PySem.W.OpenLaw} {w : World} {K : PySem.W.Frag} {h : Heap} {mg : Str → Option Value} {fa f : Addr} {oc : Value} {od an : Option Addr} {osl : Array (Option Value)} {kV doc pm cdv ct : Value} {fI : Addr} {fdI : FuncData} {C_BadFree : Addr} {C_BadLot : Addr} {C_BadMap : Addr} {C_BadPlace : Addr} {C_BadWish : Addr} {C_Refused : Addr} {cc_law_refused Pt_law_refused : Addr} (X : K.In h) (G : h.Ns mainGlobals mg) (hfa : mg "law" = some (.ref fa)) (T : Txt mg)
    (D_law_pool : Def K mg "_law_pool" s_law_pool) (D_law_draw : Def K mg "_law_draw" s_law_draw) (D_law_turned : Def K mg "_law_turned" s_law_turned) (D_law_map_named : Def K mg "_law_map_named" s_law_map_named) (D_law_map_some_wished : Def K mg "_law_map_some_wished" s_law_map_some_wished) (D_law_map_drawn : Def K mg "_law_map_drawn" s_law_map_drawn) (D_law_map_lot : Def K mg "_law_map_lot" s_law_map_lot) (D_law_listed : Def K mg "_law_listed" s_law_listed) (D_is_number : Def K mg "is_number" s_is_number) (D_number_within : Def K mg "number_within" s_number_within) (D_road_fits : Def K mg "road_fits" s_road_fits) (D_check_roads : Def K mg "check_roads" s_check_roads) (D_first_bad_place : Def K mg "first_bad_place" s_first_bad_place) (D_made_map : Def K mg "made_map" s_made_map) (D_lot_fits : Def K mg "lot_fits" s_lot_fits) (D_check_lot : Def K mg "check_lot" s_check_lot) (D_unwished_of : Def K mg "unwished_of" s_unwished_of) (D_roads_left : Def K mg "roads_left" s_roads_left) (D_roads_from : Def K mg "roads_from" s_roads_from) (D_missed : Def K mg "missed" s_missed) (D_cuts : Def K mg "cuts" s_cuts) (D_law_told : Def K mg "_law_told" s_law_told) (D_law_chain : Def K mg "_law_chain" s_law_chain) (D_law_way_raised : Def K mg "_law_way_raised" s_law_way_raised) (D_law_way_no_charts : Def K mg "_law_way_no_charts" s_law_way_no_charts) (D_law_way_no_lots : Def K mg "_law_way_no_lots" s_law_way_no_lots) (D_law_refused : DefT K mg "_law_refused" s_law_refused cc_law_refused)
    (m_MOST_PLACES : MgI mg "MOST_PLACES" 60) (m_MOST_ROADS : MgI mg "MOST_ROADS" 240) (E_BadFree : ErrH K C_BadFree fI "BadFree") (E_BadLot : ErrH K C_BadLot fI "BadLot") (E_BadMap : ErrH K C_BadMap fI "BadMap") (E_BadPlace : ErrH K C_BadPlace fI "BadPlace") (E_BadWish : ErrH K C_BadWish fI "BadWish") (E_Refused : ErrH K C_Refused fI "Refused") (tI : PySem.W.typeIn K (.ref fI) = some (.type "function")) (FI : L2.Fun K "__init__" "Refused.__init__" s_init fI fdI) (bI : Binds K fdI ["self", "what"] []) (X_BadFree_Refused : PySem.W.subIn K (.ref C_BadFree) (.ref C_Refused) = some true) (X_BadLot_Refused : PySem.W.subIn K (.ref C_BadLot) (.ref C_Refused) = some true) (X_BadMap_Refused : PySem.W.subIn K (.ref C_BadMap) (.ref C_Refused) = some true) (X_BadPlace_Refused : PySem.W.subIn K (.ref C_BadPlace) (.ref C_Refused) = some true) (X_BadWish_Refused : PySem.W.subIn K (.ref C_BadWish) (.ref C_Refused) = some true) (hnO : PySem.W.specialIn K (.builtin "object.__class__") "__get__" = some (some (.builtin "getset_descriptor.__get__"))) (htO : PySem.W.takesIn K (.builtin "object.__class__") = some true) (ha_BadFree : PySem.W.findIn K (.ref C_BadFree) "__class__" = some (some (.builtin "object.__class__"))) (hm_BadFree : PySem.W.mroIn K C_BadFree (.type "object") = some true) (ha_BadLot : PySem.W.findIn K (.ref C_BadLot) "__class__" = some (some (.builtin "object.__class__"))) (hm_BadLot : PySem.W.mroIn K C_BadLot (.type "object") = some true) (ha_BadMap : PySem.W.findIn K (.ref C_BadMap) "__class__" = some (some (.builtin "object.__class__"))) (hm_BadMap : PySem.W.mroIn K C_BadMap (.type "object") = some true) (ha_BadPlace : PySem.W.findIn K (.ref C_BadPlace) "__class__" = some (some (.builtin "object.__class__"))) (hm_BadPlace : PySem.W.mroIn K C_BadPlace (.type "object") = some true) (ha_BadWish : PySem.W.findIn K (.ref C_BadWish) "__class__" = some (some (.builtin "object.__class__"))) (hm_BadWish : PySem.W.mroIn K C_BadWish (.type "object") = some true) (Y_BadFree_BadFree : PySem.W.kitOne K (.ref C_BadFree) (.ref C_BadFree) = some true) (Y_BadLot_BadLot : PySem.W.kitOne K (.ref C_BadLot) (.ref C_BadLot) = some true) (Y_BadMap_BadMap : PySem.W.kitOne K (.ref C_BadMap) (.ref C_BadMap) = some true) (Y_BadPlace_BadPlace : PySem.W.kitOne K (.ref C_BadPlace) (.ref C_BadPlace) = some true) (Y_BadWish_BadWish : PySem.W.kitOne K (.ref C_BadWish) (.ref C_BadWish) = some true) (N_BadFree_BadLot : PySem.W.kitOne K (.ref C_BadFree) (.ref C_BadLot) = some false) (N_BadFree_BadMap : PySem.W.kitOne K (.ref C_BadFree) (.ref C_BadMap) = some false) (N_BadFree_BadPlace : PySem.W.kitOne K (.ref C_BadFree) (.ref C_BadPlace) = some false) (N_BadFree_BadWish : PySem.W.kitOne K (.ref C_BadFree) (.ref C_BadWish) = some false) (N_BadLot_BadFree : PySem.W.kitOne K (.ref C_BadLot) (.ref C_BadFree) = some false) (N_BadLot_BadMap : PySem.W.kitOne K (.ref C_BadLot) (.ref C_BadMap) = some false) (N_BadLot_BadPlace : PySem.W.kitOne K (.ref C_BadLot) (.ref C_BadPlace) = some false) (N_BadLot_BadWish : PySem.W.kitOne K (.ref C_BadLot) (.ref C_BadWish) = some false) (N_BadMap_BadFree : PySem.W.kitOne K (.ref C_BadMap) (.ref C_BadFree) = some false) (N_BadMap_BadLot : PySem.W.kitOne K (.ref C_BadMap) (.ref C_BadLot) = some false) (N_BadMap_BadPlace : PySem.W.kitOne K (.ref C_BadMap) (.ref C_BadPlace) = some false) (N_BadMap_BadWish : PySem.W.kitOne K (.ref C_BadMap) (.ref C_BadWish) = some false) (N_BadPlace_BadFree : PySem.W.kitOne K (.ref C_BadPlace) (.ref C_BadFree) = some false) (N_BadPlace_BadLot : PySem.W.kitOne K (.ref C_BadPlace) (.ref C_BadLot) = some false) (N_BadPlace_BadMap : PySem.W.kitOne K (.ref C_BadPlace) (.ref C_BadMap) = some false) (N_BadPlace_BadWish : PySem.W.kitOne K (.ref C_BadPlace) (.ref C_BadWish) = some false) (N_BadWish_BadFree : PySem.W.kitOne K (.ref C_BadWish) (.ref C_BadFree) = some false) (N_BadWish_BadLot : PySem.W.kitOne K (.ref C_BadWish) (.ref C_BadLot) = some false) (N_BadWish_BadMap : PySem.W.kitOne K (.ref C_BadWish) (.ref C_BadMap) = some false) (N_BadWish_BadPlace : PySem.W.kitOne K (.ref C_BadWish) (.ref C_BadPlace) = some false) (gT_law_refused : h.get? Pt_law_refused = some { cls := .none, data := .fields #[] }) (nT_law_refused : K.lookup Pt_law_refused = none) (hT_law_refused : PySem.W.codeHdIn K cc_law_refused Pt_law_refused = true)
    (a : PySem.W.nsIn K mainGlobals "law" = some (some (.ref f))) (lk : K.lookup f = some ⟨oc, od, .func (PySem.W.fnOf "law" "law" (L2.defArgs s_law) (L2.defBody s_law) (L2.defScope s_law) .none kV doc pm an cdv ct), osl⟩) (c : PySem.W.codeIn K cdv "law" = true) (k : PySem.W.keepIn K (.ref f) = true) :
    ∃ (fd : FuncData) (cs : List (Addr × Addr)) (sp : Sp), (∀ p ∈ cs, h.get? p.2 = some { cls := .none, data := .fields #[] }) ∧ (∀ p ∈ cs, K.lookup p.2 = none) ∧ (∀ p ∈ cs, PySem.W.CodeHd h p.1 p.2) ∧ (∀ (s : Shared) (u : Value), BindsTo s fd ⟨[u], []⟩ [("script", u)]) ∧
      (∀ (H : Hp) (a : Addr) (ns : List Int), ns.length ≤ 63 → (∀ p ∈ cs, H p.2 = some (.tbl #[])) → SqL K H a (ns.map V.int) → sp [.ref a] H (fun v _ => v = .bl true) fun _ _ _ => False) ∧
      ∀ base : Heap, K.In base → base.Ns mainGlobals mg → (∀ p ∈ cs, TabB base mg p.1 p.2) → FnG l.prog w K mg base 21 fa fd ["script"] sp := by
  have e := hfa.symm.trans (PySem.W.mg_of X G a)
  cases e
  have F := fun_mk (st := s_law) lk c k
  refine ⟨PySem.W.fnOf "law" "law" (L2.defArgs s_law) (L2.defBody s_law) (L2.defScope s_law) .none kV doc pm an cdv ct, [(cc_law_refused, Pt_law_refused)], (sp_law K Pt_law_refused), ?_, ?_, ?_, fun s v => .of_eq rfl, fun H a ns _ hH hS => ?_, fun base _ _ tbs => ?_⟩
  · intro p hp
    simp only [List.mem_cons, List.not_mem_nil, or_false] at hp
    subst hp
    exact gT_law_refused
  · intro p hp
    simp only [List.mem_cons, List.not_mem_nil, or_false] at hp
    subst hp
    exact nT_law_refused
  · intro p hp
    simp only [List.mem_cons, List.not_mem_nil, or_false] at hp
    subst hp
    exact PySem.W.codeHd_of_K X hT_law_refused
  · exact ⟨a, ns, rfl, hS, (fun p hp => by rw [List.mem_singleton.mp hp]; exact LamX.TabS.nil (hH (cc_law_refused, Pt_law_refused) (by simp))), fun _ => rfl⟩
  have tb_law_refused := tbs (cc_law_refused, Pt_law_refused) (by simp)
  let ca : Str → Addr := caOf [("BadFree", C_BadFree), ("BadLot", C_BadLot), ("BadMap", C_BadMap), ("BadPlace", C_BadPlace), ("BadWish", C_BadWish), ("Refused", C_Refused)]
  have h_BadFree : ca "BadFree" = C_BadFree := by rfl
  have h_BadLot : ca "BadLot" = C_BadLot := by rfl
  have h_BadMap : ca "BadMap" = C_BadMap := by rfl
  have h_BadPlace : ca "BadPlace" = C_BadPlace := by rfl
  have h_BadWish : ca "BadWish" = C_BadWish := by rfl
  have h_Refused : ca "Refused" = C_Refused := by rfl
  have e_BadFree : Er l.prog w K mg base ca "BadFree" := er_mk X G E_BadFree tI FI bI h_BadFree
  have e_BadLot : Er l.prog w K mg base ca "BadLot" := er_mk X G E_BadLot tI FI bI h_BadLot
  have e_BadMap : Er l.prog w K mg base ca "BadMap" := er_mk X G E_BadMap tI FI bI h_BadMap
  have e_BadPlace : Er l.prog w K mg base ca "BadPlace" := er_mk X G E_BadPlace tI FI bI h_BadPlace
  have e_BadWish : Er l.prog w K mg base ca "BadWish" := er_mk X G E_BadWish tI FI bI h_BadWish
  have e_Refused : Er l.prog w K mg base ca "Refused" := er_mk X G E_Refused tI FI bI h_Refused
  have x_BadFree_Refused : Exm K ca "BadFree" "Refused" true := exm_mk (fI := fI) E_Refused X_BadFree_Refused h_BadFree h_Refused
  have x_BadLot_Refused : Exm K ca "BadLot" "Refused" true := exm_mk (fI := fI) E_Refused X_BadLot_Refused h_BadLot h_Refused
  have x_BadMap_Refused : Exm K ca "BadMap" "Refused" true := exm_mk (fI := fI) E_Refused X_BadMap_Refused h_BadMap h_Refused
  have x_BadPlace_Refused : Exm K ca "BadPlace" "Refused" true := exm_mk (fI := fI) E_Refused X_BadPlace_Refused h_BadPlace h_Refused
  have x_BadWish_Refused : Exm K ca "BadWish" "Refused" true := exm_mk (fI := fI) E_Refused X_BadWish_Refused h_BadWish h_Refused
  have i_BadFree : IsC K (ca "BadFree") := by rw [h_BadFree]; exact ⟨E_BadFree.ic, E_BadFree.ga, E_BadFree.gg, E_BadFree.ex, ha_BadFree, hnO, htO, hm_BadFree⟩
  have i_BadLot : IsC K (ca "BadLot") := by rw [h_BadLot]; exact ⟨E_BadLot.ic, E_BadLot.ga, E_BadLot.gg, E_BadLot.ex, ha_BadLot, hnO, htO, hm_BadLot⟩
  have i_BadMap : IsC K (ca "BadMap") := by rw [h_BadMap]; exact ⟨E_BadMap.ic, E_BadMap.ga, E_BadMap.gg, E_BadMap.ex, ha_BadMap, hnO, htO, hm_BadMap⟩
  have i_BadPlace : IsC K (ca "BadPlace") := by rw [h_BadPlace]; exact ⟨E_BadPlace.ic, E_BadPlace.ga, E_BadPlace.gg, E_BadPlace.ex, ha_BadPlace, hnO, htO, hm_BadPlace⟩
  have i_BadWish : IsC K (ca "BadWish") := by rw [h_BadWish]; exact ⟨E_BadWish.ic, E_BadWish.ga, E_BadWish.gg, E_BadWish.ex, ha_BadWish, hnO, htO, hm_BadWish⟩
  have y_BadFree_BadFree : Kit K ca "BadFree" "BadFree" := by unfold Kit; rw [h_BadFree]; exact Y_BadFree_BadFree
  have y_BadLot_BadLot : Kit K ca "BadLot" "BadLot" := by unfold Kit; rw [h_BadLot]; exact Y_BadLot_BadLot
  have y_BadMap_BadMap : Kit K ca "BadMap" "BadMap" := by unfold Kit; rw [h_BadMap]; exact Y_BadMap_BadMap
  have y_BadPlace_BadPlace : Kit K ca "BadPlace" "BadPlace" := by unfold Kit; rw [h_BadPlace]; exact Y_BadPlace_BadPlace
  have y_BadWish_BadWish : Kit K ca "BadWish" "BadWish" := by unfold Kit; rw [h_BadWish]; exact Y_BadWish_BadWish
  have n_BadFree_BadLot : KitN K ca "BadFree" "BadLot" := by unfold KitN; rw [h_BadFree, h_BadLot]; exact N_BadFree_BadLot
  have n_BadFree_BadMap : KitN K ca "BadFree" "BadMap" := by unfold KitN; rw [h_BadFree, h_BadMap]; exact N_BadFree_BadMap
  have n_BadFree_BadPlace : KitN K ca "BadFree" "BadPlace" := by unfold KitN; rw [h_BadFree, h_BadPlace]; exact N_BadFree_BadPlace
  have n_BadFree_BadWish : KitN K ca "BadFree" "BadWish" := by unfold KitN; rw [h_BadFree, h_BadWish]; exact N_BadFree_BadWish
  have n_BadLot_BadFree : KitN K ca "BadLot" "BadFree" := by unfold KitN; rw [h_BadLot, h_BadFree]; exact N_BadLot_BadFree
  have n_BadLot_BadMap : KitN K ca "BadLot" "BadMap" := by unfold KitN; rw [h_BadLot, h_BadMap]; exact N_BadLot_BadMap
  have n_BadLot_BadPlace : KitN K ca "BadLot" "BadPlace" := by unfold KitN; rw [h_BadLot, h_BadPlace]; exact N_BadLot_BadPlace
  have n_BadLot_BadWish : KitN K ca "BadLot" "BadWish" := by unfold KitN; rw [h_BadLot, h_BadWish]; exact N_BadLot_BadWish
  have n_BadMap_BadFree : KitN K ca "BadMap" "BadFree" := by unfold KitN; rw [h_BadMap, h_BadFree]; exact N_BadMap_BadFree
  have n_BadMap_BadLot : KitN K ca "BadMap" "BadLot" := by unfold KitN; rw [h_BadMap, h_BadLot]; exact N_BadMap_BadLot
  have n_BadMap_BadPlace : KitN K ca "BadMap" "BadPlace" := by unfold KitN; rw [h_BadMap, h_BadPlace]; exact N_BadMap_BadPlace
  have n_BadMap_BadWish : KitN K ca "BadMap" "BadWish" := by unfold KitN; rw [h_BadMap, h_BadWish]; exact N_BadMap_BadWish
  have n_BadPlace_BadFree : KitN K ca "BadPlace" "BadFree" := by unfold KitN; rw [h_BadPlace, h_BadFree]; exact N_BadPlace_BadFree
  have n_BadPlace_BadLot : KitN K ca "BadPlace" "BadLot" := by unfold KitN; rw [h_BadPlace, h_BadLot]; exact N_BadPlace_BadLot
  have n_BadPlace_BadMap : KitN K ca "BadPlace" "BadMap" := by unfold KitN; rw [h_BadPlace, h_BadMap]; exact N_BadPlace_BadMap
  have n_BadPlace_BadWish : KitN K ca "BadPlace" "BadWish" := by unfold KitN; rw [h_BadPlace, h_BadWish]; exact N_BadPlace_BadWish
  have n_BadWish_BadFree : KitN K ca "BadWish" "BadFree" := by unfold KitN; rw [h_BadWish, h_BadFree]; exact N_BadWish_BadFree
  have n_BadWish_BadLot : KitN K ca "BadWish" "BadLot" := by unfold KitN; rw [h_BadWish, h_BadLot]; exact N_BadWish_BadLot
  have n_BadWish_BadMap : KitN K ca "BadWish" "BadMap" := by unfold KitN; rw [h_BadWish, h_BadMap]; exact N_BadWish_BadMap
  have n_BadWish_BadPlace : KitN K ca "BadWish" "BadPlace" := by unfold KitN; rw [h_BadWish, h_BadPlace]; exact N_BadWish_BadPlace
  have c_law_pool := cal_law_pool (P := l.prog) (w := w) (base := base) T D_law_pool 
  have c_law_draw := cal_law_draw (P := l.prog) (w := w) (base := base) T D_law_draw 
  have c_law_turned := cal_law_turned (P := l.prog) (w := w) (base := base) T D_law_turned c_law_draw
  have c_law_map_named := cal_law_map_named (P := l.prog) (w := w) (base := base) T D_law_map_named c_law_turned
  have c_law_map_some_wished := cal_law_map_some_wished (P := l.prog) (w := w) (base := base) T D_law_map_some_wished c_law_draw
  have c_law_map_drawn := cal_law_map_drawn (P := l.prog) (w := w) (base := base) T D_law_map_drawn c_law_draw c_law_map_named c_law_map_some_wished
  have c_law_map_lot := cal_law_map_lot (P := l.prog) (w := w) (base := base) T D_law_map_lot c_law_draw
  have c_law_listed := cal_law_listed (P := l.prog) (w := w) (base := base) T D_law_listed 
  have c_is_number := cal_is_number (P := l.prog) (w := w) (base := base) T D_is_number 
  have c_number_within := cal_number_within (P := l.prog) (w := w) (base := base) T D_number_within c_is_number
  have c_road_fits := cal_road_fits (P := l.prog) (w := w) (base := base) T D_road_fits c_number_within
  have c_check_roads := cal_check_roads (P := l.prog) (w := w) (base := base) T D_check_roads m_MOST_ROADS e_BadMap c_road_fits
  have c_first_bad_place := cal_first_bad_place (P := l.prog) (w := w) (base := base) T D_first_bad_place c_number_within
  have c_made_map := cal_made_map (P := l.prog) (w := w) (base := base) T D_made_map m_MOST_PLACES e_BadMap e_BadWish c_number_within c_check_roads c_first_bad_place
  have c_lot_fits := cal_lot_fits (P := l.prog) (w := w) (base := base) T D_lot_fits c_first_bad_place
  have c_check_lot := cal_check_lot (P := l.prog) (w := w) (base := base) T D_check_lot e_BadLot c_lot_fits
  have c_unwished_of := cal_unwished_of (P := l.prog) (w := w) (base := base) T D_unwished_of 
  have c_roads_left := cal_roads_left (P := l.prog) (w := w) (base := base) T D_roads_left c_unwished_of
  have c_roads_from := cal_roads_from (P := l.prog) (w := w) (base := base) T D_roads_from 
  have c_missed := cal_missed (P := l.prog) (w := w) (base := base) T D_missed c_made_map c_check_lot c_roads_left c_roads_from
  have c_cuts := cal_cuts (P := l.prog) (w := w) (base := base) T D_cuts c_missed
  have v_cuts := calv_cuts (P := l.prog) (w := w) (base := base) c_cuts
  have v_missed := calv_missed (P := l.prog) (w := w) (base := base) c_missed
  have c_law_told := cal_law_told (P := l.prog) (w := w) (base := base) T D_law_told v_cuts v_missed
  have c_law_chain := cal_law_chain (P := l.prog) (w := w) (base := base) T D_law_chain c_law_draw c_law_turned c_law_told
  have l_law_way_raised := calLG_law_way_raised (P := l.prog) (w := w) (base := base) T D_law_way_raised e_Refused e_BadMap e_BadWish e_BadLot e_BadFree e_BadPlace x_BadMap_Refused x_BadWish_Refused x_BadLot_Refused x_BadFree_Refused x_BadPlace_Refused i_BadMap i_BadWish i_BadLot i_BadFree i_BadPlace y_BadMap_BadMap y_BadWish_BadWish y_BadLot_BadLot y_BadFree_BadFree y_BadPlace_BadPlace n_BadMap_BadWish n_BadMap_BadLot n_BadMap_BadFree n_BadMap_BadPlace n_BadWish_BadMap n_BadWish_BadLot n_BadWish_BadFree n_BadWish_BadPlace n_BadLot_BadMap n_BadLot_BadWish n_BadLot_BadFree n_BadLot_BadPlace n_BadFree_BadMap n_BadFree_BadWish n_BadFree_BadLot n_BadFree_BadPlace n_BadPlace_BadMap n_BadPlace_BadWish n_BadPlace_BadLot n_BadPlace_BadFree
  have c_law_way_no_charts := cal_law_way_no_charts (P := l.prog) (w := w) (base := base) T D_law_way_no_charts 
  have c_law_way_no_lots := cal_law_way_no_lots (P := l.prog) (w := w) (base := base) T D_law_way_no_lots 
  have c_law_refused := cal_law_refused (P := l.prog) (w := w) (base := base) T D_law_refused tb_law_refused l_law_way_raised c_law_way_no_charts c_law_way_no_lots c_missed c_cuts
  exact fn_law T F c_law_pool c_law_map_drawn c_law_map_lot c_law_listed c_law_told c_law_chain c_law_refused
theorem walk {l : PySem.W.OpenLaw} {q : Program} {loose : List Str} {XP : (Str → Option Value) → Heap → Prop} {YP : World → Heap → Prop} {d : DefRec} {K : Params → PySem.W.Frag} (hn : l.most = some 63) (hdf : d.params.defaults = [])
    (hY : ∀ (w : World) (h : Heap), YP w h → (K w.params).In h)
    (F : ∀ (w : World) (mg : Str → Option Value) (fa : Addr) (h : Heap), YP w h → (K w.params).In h → h.Ns mainGlobals mg → mg d.name = some (.ref fa) →
      ∃ (fd : FuncData) (cs : List (Addr × Addr)) (sp : Sp), (∀ p ∈ cs, h.get? p.2 = some { cls := .none, data := .fields #[] }) ∧ (∀ p ∈ cs, (K w.params).lookup p.2 = none) ∧ (∀ p ∈ cs, PySem.W.CodeHd h p.1 p.2) ∧ (∀ (s : Shared) (u : Value), BindsTo s fd ⟨[u], []⟩ [("script", u)]) ∧
        (∀ (H : Hp) (a : Addr) (ns : List Int), ns.length ≤ 63 → (∀ p ∈ cs, H p.2 = some (.tbl #[])) → SqL (K w.params) H a (ns.map V.int) → sp [.ref a] H (fun v _ => v = .bl true) fun _ _ _ => False) ∧
        ∀ base : Heap, (K w.params).In base → base.Ns mainGlobals mg → (∀ p ∈ cs, TabB base mg p.1 p.2) → FnG l.prog w (K w.params) mg base 21 fa fd ["script"] sp) :
    PySem.W.WalkO q loose XP YP l.row.toRowW d [] (fun f vs => PySem.call f vs) :=
  gwalkT (n := 63) (k := 21) (x := "script") hn (by decide) hdf ⟨rfl, by decide, by decide⟩ hY F
end Ft

open PySem PySem.W PyProof.Rows
set_option maxRecDepth 100000 in
set_option maxHeartbeats 0 in
theorem PySem.Challenge.cw_fewtraps_k05_cuts_and_missed_walks_holds : PySem.Challenge.rw_fewtraps_k05_cuts_and_missed_walks.Holds := by
  w_on; o_law; k_head; (case hw => w_witness2)
  k_fill
  refine Ft.walk (l := PySem.Challenge.rw_fewtraps_k05_cuts_and_missed_walks) rfl rfl (fun w h Y => PySem.W.km_in_of Y) ?F
  case F =>
    intro w mg fa h Y KX G hmg
    have hT8 := PySem.W.km_tabs_of Y
    refine' Ft.all_mk KX G hmg (Ft.txt_mk KX G ?z0 ?z1 ?z2 ?z3 ?z4 ?z5 ?z6 ?z7 ?z8 ?z9 ?z10 ?z11 ?z12 ?z13 ?z14 ?z15 ?z16 ?z17 ?z18) (Ft.def_mk KX G ?a_law_pool ?l_law_pool ?c_law_pool ?k_law_pool) (Ft.def_mk KX G ?a_law_draw ?l_law_draw ?c_law_draw ?k_law_draw) (Ft.def_mk KX G ?a_law_turned ?l_law_turned ?c_law_turned ?k_law_turned) (Ft.def_mk KX G ?a_law_map_named ?l_law_map_named ?c_law_map_named ?k_law_map_named) (Ft.def_mk KX G ?a_law_map_some_wished ?l_law_map_some_wished ?c_law_map_some_wished ?k_law_map_some_wished) (Ft.def_mk KX G ?a_law_map_drawn ?l_law_map_drawn ?c_law_map_drawn ?k_law_map_drawn) (Ft.def_mk KX G ?a_law_map_lot ?l_law_map_lot ?c_law_map_lot ?k_law_map_lot) (Ft.def_mk KX G ?a_law_listed ?l_law_listed ?c_law_listed ?k_law_listed) (Ft.def_mk KX G ?a_is_number ?l_is_number ?c_is_number ?k_is_number) (Ft.def_mk KX G ?a_number_within ?l_number_within ?c_number_within ?k_number_within) (Ft.def_mk KX G ?a_road_fits ?l_road_fits ?c_road_fits ?k_road_fits) (Ft.def_mk KX G ?a_check_roads ?l_check_roads ?c_check_roads ?k_check_roads) (Ft.def_mk KX G ?a_first_bad_place ?l_first_bad_place ?c_first_bad_place ?k_first_bad_place) (Ft.def_mk KX G ?a_made_map ?l_made_map ?c_made_map ?k_made_map) (Ft.def_mk KX G ?a_lot_fits ?l_lot_fits ?c_lot_fits ?k_lot_fits) (Ft.def_mk KX G ?a_check_lot ?l_check_lot ?c_check_lot ?k_check_lot) (Ft.def_mk KX G ?a_unwished_of ?l_unwished_of ?c_unwished_of ?k_unwished_of) (Ft.def_mk KX G ?a_roads_left ?l_roads_left ?c_roads_left ?k_roads_left) (Ft.def_mk KX G ?a_roads_from ?l_roads_from ?c_roads_from ?k_roads_from) (Ft.def_mk KX G ?a_missed ?l_missed ?c_missed ?k_missed) (Ft.def_mk KX G ?a_cuts ?l_cuts ?c_cuts ?k_cuts) (Ft.def_mk KX G ?a_law_told ?l_law_told ?c_law_told ?k_law_told) (Ft.def_mk KX G ?a_law_chain ?l_law_chain ?c_law_chain ?k_law_chain) (Ft.def_mk KX G ?a_law_way_raised ?l_law_way_raised ?c_law_way_raised ?k_law_way_raised) (Ft.def_mk KX G ?a_law_way_no_charts ?l_law_way_no_charts ?c_law_way_no_charts ?k_law_way_no_charts) (Ft.def_mk KX G ?a_law_way_no_lots ?l_law_way_no_lots ?c_law_way_no_lots ?k_law_way_no_lots) (Ft.defT_mk KX G ?a_law_refused ?l_law_refused ?c_law_refused ?k_law_refused) (Ft.mgI_mk KX G ?m_MOST_PLACES) (Ft.mgI_mk KX G ?m_MOST_ROADS) (Ft.errH_mk ?ea_BadFree ?ecl_BadFree ?r_BadFree ?esa_BadFree ?ega_BadFree ?egg_BadFree ?enw_BadFree ?eii_BadFree ?eex_BadFree ?ety_BadFree ?ekp_BadFree ?ehd_BadFree ?eic_BadFree) (Ft.errH_mk ?ea_BadLot ?ecl_BadLot ?r_BadLot ?esa_BadLot ?ega_BadLot ?egg_BadLot ?enw_BadLot ?eii_BadLot ?eex_BadLot ?ety_BadLot ?ekp_BadLot ?ehd_BadLot ?eic_BadLot) (Ft.errH_mk ?ea_BadMap ?ecl_BadMap ?r_BadMap ?esa_BadMap ?ega_BadMap ?egg_BadMap ?enw_BadMap ?eii_BadMap ?eex_BadMap ?ety_BadMap ?ekp_BadMap ?ehd_BadMap ?eic_BadMap) (Ft.errH_mk ?ea_BadPlace ?ecl_BadPlace ?r_BadPlace ?esa_BadPlace ?ega_BadPlace ?egg_BadPlace ?enw_BadPlace ?eii_BadPlace ?eex_BadPlace ?ety_BadPlace ?ekp_BadPlace ?ehd_BadPlace ?eic_BadPlace) (Ft.errH_mk ?ea_BadWish ?ecl_BadWish ?r_BadWish ?esa_BadWish ?ega_BadWish ?egg_BadWish ?enw_BadWish ?eii_BadWish ?eex_BadWish ?ety_BadWish ?ekp_BadWish ?ehd_BadWish ?eic_BadWish) (Ft.errH_mk ?ea_Refused ?ecl_Refused ?r_Refused ?esa_Refused ?ega_Refused ?egg_Refused ?enw_Refused ?eii_Refused ?eex_Refused ?ety_Refused ?ekp_Refused ?ehd_Refused ?eic_Refused) ?tI (L2.fun_mk ?lI ?cI ?kI) (L2.Fun.binds (st := Ft.s_init) (L2.fun_mk ?lI ?cI ?kI) fun _ _ _ _ _ _ us hl => match us, hl with | [_, _], _ => rfl) ?X_BadFree_Refused ?X_BadLot_Refused ?X_BadMap_Refused ?X_BadPlace_Refused ?X_BadWish_Refused ?hnO ?htO ?ha_BadFree ?hm_BadFree ?ha_BadLot ?hm_BadLot ?ha_BadMap ?hm_BadMap ?ha_BadPlace ?hm_BadPlace ?ha_BadWish ?hm_BadWish ?Y_BadFree_BadFree ?Y_BadLot_BadLot ?Y_BadMap_BadMap ?Y_BadPlace_BadPlace ?Y_BadWish_BadWish ?N_BadFree_BadLot ?N_BadFree_BadMap ?N_BadFree_BadPlace ?N_BadFree_BadWish ?N_BadLot_BadFree ?N_BadLot_BadMap ?N_BadLot_BadPlace ?N_BadLot_BadWish ?N_BadMap_BadFree ?N_BadMap_BadLot ?N_BadMap_BadPlace ?N_BadMap_BadWish ?N_BadPlace_BadFree ?N_BadPlace_BadLot ?N_BadPlace_BadMap ?N_BadPlace_BadWish ?N_BadWish_BadFree ?N_BadWish_BadLot ?N_BadWish_BadMap ?N_BadWish_BadPlace (hT8 _ ?mT_law_refused) ?nT_law_refused ?hT_law_refused ?a ?l ?c ?k
    (case a_law_pool => k_is); (case l_law_pool => k_is); (case c_law_pool => k_is); (case k_law_pool => k_is)
    (case a_law_draw => k_is); (case l_law_draw => k_is); (case c_law_draw => k_is); (case k_law_draw => k_is)
    (case a_law_turned => k_is); (case l_law_turned => k_is); (case c_law_turned => k_is); (case k_law_turned => k_is)
    (case a_law_map_named => k_is); (case l_law_map_named => k_is); (case c_law_map_named => k_is); (case k_law_map_named => k_is)
    (case a_law_map_some_wished => k_is); (case l_law_map_some_wished => k_is); (case c_law_map_some_wished => k_is); (case k_law_map_some_wished => k_is)
    (case a_law_map_drawn => k_is); (case l_law_map_drawn => k_is); (case c_law_map_drawn => k_is); (case k_law_map_drawn => k_is)
    (case a_law_map_lot => k_is); (case l_law_map_lot => k_is); (case c_law_map_lot => k_is); (case k_law_map_lot => k_is)
    (case a_law_listed => k_is); (case l_law_listed => k_is); (case c_law_listed => k_is); (case k_law_listed => k_is)
    (case a_is_number => k_is); (case l_is_number => k_is); (case c_is_number => k_is); (case k_is_number => k_is)
    (case a_number_within => k_is); (case l_number_within => k_is); (case c_number_within => k_is); (case k_number_within => k_is)
    (case a_road_fits => k_is); (case l_road_fits => k_is); (case c_road_fits => k_is); (case k_road_fits => k_is)
    (case a_check_roads => k_is); (case l_check_roads => k_is); (case c_check_roads => k_is); (case k_check_roads => k_is)
    (case a_first_bad_place => k_is); (case l_first_bad_place => k_is); (case c_first_bad_place => k_is); (case k_first_bad_place => k_is)
    (case a_made_map => k_is); (case l_made_map => k_is); (case c_made_map => k_is); (case k_made_map => k_is)
    (case a_lot_fits => k_is); (case l_lot_fits => k_is); (case c_lot_fits => k_is); (case k_lot_fits => k_is)
    (case a_check_lot => k_is); (case l_check_lot => k_is); (case c_check_lot => k_is); (case k_check_lot => k_is)
    (case a_unwished_of => k_is); (case l_unwished_of => k_is); (case c_unwished_of => k_is); (case k_unwished_of => k_is)
    (case a_roads_left => k_is); (case l_roads_left => k_is); (case c_roads_left => k_is); (case k_roads_left => k_is)
    (case a_roads_from => k_is); (case l_roads_from => k_is); (case c_roads_from => k_is); (case k_roads_from => k_is)
    (case a_missed => k_is); (case l_missed => k_is); (case c_missed => k_is); (case k_missed => k_is)
    (case a_cuts => k_is); (case l_cuts => k_is); (case c_cuts => k_is); (case k_cuts => k_is)
    (case a_law_told => k_is); (case l_law_told => k_is); (case c_law_told => k_is); (case k_law_told => k_is)
    (case a_law_chain => k_is); (case l_law_chain => k_is); (case c_law_chain => k_is); (case k_law_chain => k_is)
    (case a_law_way_raised => k_is); (case l_law_way_raised => k_is); (case c_law_way_raised => k_is); (case k_law_way_raised => k_is)
    (case a_law_way_no_charts => k_is); (case l_law_way_no_charts => k_is); (case c_law_way_no_charts => k_is); (case k_law_way_no_charts => k_is)
    (case a_law_way_no_lots => k_is); (case l_law_way_no_lots => k_is); (case c_law_way_no_lots => k_is); (case k_law_way_no_lots => k_is)
    (case a_law_refused => k_is); (case l_law_refused => k_is); (case c_law_refused => k_is); (case k_law_refused => k_is)
    (case m_MOST_PLACES => k_is)
    (case m_MOST_ROADS => k_is)
    (case ea_BadFree => k_is); (case ecl_BadFree => k_is); (case esa_BadFree => k_is); (case ega_BadFree => k_is); (case egg_BadFree => k_is); (case enw_BadFree => k_is); (case eii_BadFree => k_is); (case eex_BadFree => k_is); (case ety_BadFree => k_is); (case ekp_BadFree => k_is); (case ehd_BadFree => k_is); (case eic_BadFree => k_is); (case r_BadFree => decide +kernel)
    (case ea_BadLot => k_is); (case ecl_BadLot => k_is); (case esa_BadLot => k_is); (case ega_BadLot => k_is); (case egg_BadLot => k_is); (case enw_BadLot => k_is); (case eii_BadLot => k_is); (case eex_BadLot => k_is); (case ety_BadLot => k_is); (case ekp_BadLot => k_is); (case ehd_BadLot => k_is); (case eic_BadLot => k_is); (case r_BadLot => decide +kernel)
    (case ea_BadMap => k_is); (case ecl_BadMap => k_is); (case esa_BadMap => k_is); (case ega_BadMap => k_is); (case egg_BadMap => k_is); (case enw_BadMap => k_is); (case eii_BadMap => k_is); (case eex_BadMap => k_is); (case ety_BadMap => k_is); (case ekp_BadMap => k_is); (case ehd_BadMap => k_is); (case eic_BadMap => k_is); (case r_BadMap => decide +kernel)
    (case ea_BadPlace => k_is); (case ecl_BadPlace => k_is); (case esa_BadPlace => k_is); (case ega_BadPlace => k_is); (case egg_BadPlace => k_is); (case enw_BadPlace => k_is); (case eii_BadPlace => k_is); (case eex_BadPlace => k_is); (case ety_BadPlace => k_is); (case ekp_BadPlace => k_is); (case ehd_BadPlace => k_is); (case eic_BadPlace => k_is); (case r_BadPlace => decide +kernel)
    (case ea_BadWish => k_is); (case ecl_BadWish => k_is); (case esa_BadWish => k_is); (case ega_BadWish => k_is); (case egg_BadWish => k_is); (case enw_BadWish => k_is); (case eii_BadWish => k_is); (case eex_BadWish => k_is); (case ety_BadWish => k_is); (case ekp_BadWish => k_is); (case ehd_BadWish => k_is); (case eic_BadWish => k_is); (case r_BadWish => decide +kernel)
    (case ea_Refused => k_is); (case ecl_Refused => k_is); (case esa_Refused => k_is); (case ega_Refused => k_is); (case egg_Refused => k_is); (case enw_Refused => k_is); (case eii_Refused => k_is); (case eex_Refused => k_is); (case ety_Refused => k_is); (case ekp_Refused => k_is); (case ehd_Refused => k_is); (case eic_Refused => k_is); (case r_Refused => decide +kernel)
    (case tI => k_is); (case lI => k_is); (case cI => k_is); (case kI => k_is)
    (case X_BadFree_Refused => first | rfl | k_is)
    (case X_BadLot_Refused => first | rfl | k_is)
    (case X_BadMap_Refused => first | rfl | k_is)
    (case X_BadPlace_Refused => first | rfl | k_is)
    (case X_BadWish_Refused => first | rfl | k_is)
    (case hnO => k_is); (case htO => k_is)
    (case ha_BadFree => k_is); (case hm_BadFree => k_is)
    (case ha_BadLot => k_is); (case hm_BadLot => k_is)
    (case ha_BadMap => k_is); (case hm_BadMap => k_is)
    (case ha_BadPlace => k_is); (case hm_BadPlace => k_is)
    (case ha_BadWish => k_is); (case hm_BadWish => k_is)
    (case Y_BadFree_BadFree => kit_is)
    (case Y_BadLot_BadLot => kit_is)
    (case Y_BadMap_BadMap => kit_is)
    (case Y_BadPlace_BadPlace => kit_is)
    (case Y_BadWish_BadWish => kit_is)
    (case N_BadFree_BadLot => kit_is)
    (case N_BadFree_BadMap => kit_is)
    (case N_BadFree_BadPlace => kit_is)
    (case N_BadFree_BadWish => kit_is)
    (case N_BadLot_BadFree => kit_is)
    (case N_BadLot_BadMap => kit_is)
    (case N_BadLot_BadPlace => kit_is)
    (case N_BadLot_BadWish => kit_is)
    (case N_BadMap_BadFree => kit_is)
    (case N_BadMap_BadLot => kit_is)
    (case N_BadMap_BadPlace => kit_is)
    (case N_BadMap_BadWish => kit_is)
    (case N_BadPlace_BadFree => kit_is)
    (case N_BadPlace_BadLot => kit_is)
    (case N_BadPlace_BadMap => kit_is)
    (case N_BadPlace_BadWish => kit_is)
    (case N_BadWish_BadFree => kit_is)
    (case N_BadWish_BadLot => kit_is)
    (case N_BadWish_BadMap => kit_is)
    (case N_BadWish_BadPlace => kit_is)
    (case mT_law_refused => exact List.mem_cons_self); (case nT_law_refused => first | kernel_rfl | k_is); (case hT_law_refused => kernel_rfl)
    (case z0 => k_is)
    (case z1 => k_is)
    (case z2 => k_is)
    (case z3 => k_is)
    (case z4 => k_is)
    (case z5 => k_is)
    (case z6 => k_is)
    (case z7 => k_is)
    (case z8 => k_is)
    (case z9 => k_is)
    (case z10 => k_is)
    (case z11 => k_is)
    (case z12 => k_is)
    (case z13 => k_is)
    (case z14 => k_is)
    (case z15 => k_is)
    (case z16 => k_is)
    (case z17 => k_is)
    (case z18 => k_is)
    (case a => k_is); (case l => k_is); (case c => k_is); (case k => k_is)
