import PyProof.Rows.All
import Wide.All
import OpenK.AllK
import Wide.FinOn
import HandS.ForMost
import HandS.Strs
import HandS.TupSets
import HandS.SortInts
import HandS.IsInst
import HandS.TupLe
import HandS.TupAny
import HandS.DictComp
import HandS.Style
import HandS.Walk
import HandS.Conv
import KE.SortData
import KE.GoesMore
import HandS.Exc
import HandS.ExcOwn
import HandS.ExcInit
import HandS.ExcField
import HandS.TryOnly
import HandS.TryMany
import HandS.WordsExc
import KE.KExcIs
import HandS.ExcIs
import HandS.Deep
import HandS.Lambda
import HandS.EndTab
import KE.KNestM
import PyProof.SetRoads
import HandS.SetFor
import HandS.TupMul
import HandS.Zip
import KE.KDictZip
import HandS.Zip0
import HandS.Comp
import PyProof.TupleOfSeq
import HandS.SetBool
import PySem.Challenge.RW_fewtraps_k09_ways_judged
set_option Elab.async false
set_option linter.all false
set_option maxRecDepth 100000
set_option maxHeartbeats 4000000
/-! The layer's additions: repr of data, calls of defs that ask for it, sets of ints, a dict comprehension given to a name. -/
namespace Ft
open PySem PySem.Spec PyProof.Rows L2

/-! ### repr of data -/
mutual
theorem dp_plain {K : PySem.W.Frag} {H : Hp} : ∀ (d : PyData) (v : V), Dp K H v d → d.hasDict = false
  | .none, _, _ => by simp only [PyData.hasDict]
  | .bool _, _, _ => by simp only [PyData.hasDict]
  | .int _, _, _ => by simp only [PyData.hasDict]
  | .str _, _, _ => by simp only [PyData.hasDict]
  | .list ds, _, h => by
    cases h with
    | lst _ a => simp only [PyData.hasDict]; exact dp_plains ds _ a
  | .tuple ds, _, h => by
    cases h with
    | tup _ a => simp only [PyData.hasDict]; exact dp_plains ds _ a
  | .dict _, _, h => by cases h
theorem dp_plains {K : PySem.W.Frag} {H : Hp} : ∀ (ds : List PyData) (vs : List V), DpAll K H vs ds → PyData.hasDictAll ds = false
  | [], _, _ => by simp only [PyData.hasDictAll]
  | d :: ds, _, h => by
    cases h with
    | cons h1 h2 => simp only [PyData.hasDictAll, dp_plain d _ h1, dp_plains ds _ h2, Bool.or_self]
end

/-- data that repr shows without meeting a bound -/
structure Shows (d : PyData) : Prop where
  sh : d.showable = true
  lv : d.leavesShort 13 = true
  wt : d.weight ≤ 2 ^ 20
  dp : d.depth ≤ 60

def rRepr (K : PySem.W.Frag) : List V → Hp → VK → Prop := fun xs H Q => ∃ x d, xs = [x] ∧ Dp K H x d ∧ Shows d ∧ Q (.str d.shown) H
theorem cr_repr {X : Cx} (hg : X.A.guards = some []) (hu : X.A.units + 64 < cLine) : CallR X (.builtin "repr") (rRepr X.K) := by
  intro pins s σ H xs us Q I r h
  obtain ⟨x, d, rfl, hd, S, q⟩ := h
  obtain ⟨u, rfl, rx⟩ := vals1 r
  have fits := PyData.shown_fits (by decide) (by decide) S.lv S.wt
  cases hd with
  | non =>
    cases rx
    simp only [PyData.shown] at q
    exact PySem.P.repr_of_none ⟨.str _, H, I.tok _, ⟨_, rfl⟩, q⟩
  | bl b =>
    cases rx
    simp only [PyData.shown] at q
    exact PySem.P.repr_of_bool ⟨.str _, H, I.tok _, ⟨_, rfl⟩, q⟩
  | int i =>
    obtain ⟨t, rfl⟩ := rx
    have hs := S.sh
    simp only [PyData.showable, decide_eq_true_eq] at hs
    simp only [PyData.shown] at q
    exact PySem.P.repr_of_int hs ⟨.str _, H, I.tok _, ⟨_, rfl⟩, q⟩
  | str z =>
    obtain ⟨t, rfl⟩ := rx
    simp only [PyData.shown] at q fits
    exact PySem.P.repr_of_str ⟨.str _, H, I.tok _, ⟨_, rfl⟩, q⟩ fits
  | lst h1 h2 =>
    obtain ⟨as, rd⟩ := Dp.reads I _ _ u (.lst h1 h2) rx
    cases rx
    exact repr_of_reads' rd S.sh (PyData.noDict_hsm (dp_plain _ _ (Dp.lst h1 h2))) hg (by have := S.dp; omega) (fun _ _ e => e) (fun h' v tk k => ⟨.str _, H, I.kept k, ⟨_, rfl⟩, q⟩) fits
  | tup h1 h2 =>
    obtain ⟨as, rd⟩ := Dp.reads I _ _ u (.tup h1 h2) rx
    cases rx
    exact repr_of_reads' rd S.sh (PyData.noDict_hsm (dp_plain _ _ (Dp.tup h1 h2))) hg (by have := S.dp; omega) (fun _ _ e => e) (fun h' v tk k => ⟨.str _, H, I.kept k, ⟨_, rfl⟩, q⟩) fits
end Ft

set_option Elab.async false
set_option linter.all false
set_option maxRecDepth 100000
set_option maxHeartbeats 4000000
namespace Ft
open PySem PySem.Spec PyProof.Rows L2
/-! ### defs that are called where no repr is under way -/
structure FnG (P : Program) (w : World) (K : PySem.W.Frag) (mg : Str → Option Value) (base : Heap) (k : Nat) (f : Addr) (fd : FuncData) (ps : List Str) (sp : Sp) : Prop where
  many : ∀ vs H Q E, sp vs H Q E → vs.length = ps.length
  goes : ∀ (A : Around) (out : List Env) (s : Shared) (H : Hp) (args : Args) (us : List Value) (vs : List V) (Q : VK) (E : XK), A.guards = some [] → Room k A → Env0 P w K mg base A out s H →
    BindsTo s fd args (ps.zip us) → Vals vs us → sp vs H Q E → codeAny (model P w) A (.call (.ref f) args) (CR CX0 out P w H s Q E) s
section
variable {P : Program} {w : World} {K : PySem.W.Frag} {mg : Str → Option Value} {base : Heap}
/-- by its body -/
theorem gfun {x : Str} {st : Stmt} {f : Addr} {fd : FuncData} {N ps : List Str} {k : Nat} {sp : Sp} (F : L2.Fun K x x st f fd) (S : FnScope N ps (L2.defScope st)) (many : ∀ vs H Q E, sp vs H Q E → vs.length = ps.length)
    (body : ∀ (cdv : Value) (A : Around) (out : List Env) (s : Shared) (H : Hp) (vs : List V) (Q : VK) (E : XK), A.guards = some [] → Room k (A.deeper (envOfC x (L2.defScope st) s.heap.objs.size f cdv)) → sp vs H Q E →
      ∃ t, PSs (cxOf L2.CX0 P w K mg base N x (L2.defScope st) f cdv A out s H E).nox (L2.defBody st) t ∧ t { nx := fun _ H' => Q .non H', rt := Q } (start N vs) H) :
    FnG P w K mg base (k + 1) f fd ps sp := by
  obtain ⟨oc, od, kV, doc, pm, an, cdv, ct, osl, rfl, lk, hcd⟩ := F.ex
  refine ⟨many, ?_⟩
  intro A out s H args us vs Q E hg hr e0 hb r hsp
  have hin : K.In s.heap := e0.mod.kin.keeps (fun b o q => (e0.bs b o q).1)
  have nolim : s.heap.NoLimit := e0.mod.nolimit.keeps (fun b o q => (e0.bs b o q).1)
  have kinds : ∀ y ∈ ps.zip us, (L2.defScope st).names.lookup y.1 = some .local ∨ ((L2.defScope st).names.lookup y.1 = some .cell ∧ ((cellsFrom (s.heap.objs.size + 1) (L2.defScope st).names []).lookup y.1).isSome = true) := by
    intro y hy
    cases S.par y.1 (List.of_mem_zip (a := y.1) (b := y.2) hy).1 with
    | inl q => exact .inl q
    | inr q => exact .inr ⟨q, PySem.W.cellsFrom_some _ _ _ (.inl q)⟩
  refine codeAny_call_function hr.depth (hin _ _ lk) rfl S.co S.gen rfl (PySem.W.codeRec_of hin hcd) (hb _ _ _ _ ?_)
  refine wpAny_newFunctionEnv_cells S.kind kinds fun env he s1 z => ?_
  subst he
  refine ⟨nolim.keeps z.toInCall.keep, codeAny_func ?_⟩
  obtain ⟨t, ht, hq⟩ := body cdv A out s H vs Q E hg (hr.deeper _) hsp
  have I := inv_start (CX := L2.CX0) (E := E) (f := f) (cd := cdv) (qual := x) S hr.hd e0 (many _ _ _ _ hsp) r z
  refine wpAny_mono (ht.nox.run [] s1 (start N vs) H _ I hq) ?_ (fun e s' hs => hs)
  intro fl s' hs
  have ends : ∀ {σ' : L2.St} {H' : Hp} {v : V} {u : Value}, Inv (cxOf L2.CX0 P w K mg base N x (L2.defScope st) f cdv A out s H E) [] σ' H' s' → RelV v u → Q v H' → CE out P w H s Q u s' := by
    intro σ' H' v u J rv q
    exact ⟨v, H', J.os, J.bare, J.base, J.hok, rv, q⟩
  cases fl with
  | ret u => exact let ⟨v, σ', H', J, rv, q⟩ := hs; ends J rv q
  | next => exact let ⟨σ', H', J, q⟩ := hs; ends (v := V.non) (u := Value.none) J rfl q
  | brk => exact let ⟨_, _, _, q⟩ := hs; q.elim
  | cont => exact let ⟨_, _, _, q⟩ := hs; q.elim
end
/-- called by its name -/
structure CalG (P : Program) (w : World) (K : PySem.W.Frag) (mg : Str → Option Value) (base : Heap) (k : Nat) (x : Str) (sp : Sp) : Prop where
  ex : ∃ (f : Addr) (fd : FuncData) (ps : List Str), FnG P w K mg base k f fd ps sp ∧ mg x = some (.ref f) ∧ PySem.W.keepIn K (.ref f) = true ∧ Binds K fd ps []
section
variable {X : Cx} {k j : Nat} {x : Str} {sp : Sp} {p pos : Pos} {e : Expr} {es : List Expr} {t : TA}
theorem pe_g (c : CalG X.prog X.w X.K X.mg X.base k x sp) (hgd : X.A.guards = some []) (hr : Room j X.A) (hk : k ≤ j) (hg : Gl X x) (ha : PA X (e :: es) t)
    (hdb : (x == ("__debug__" : Str)) = false := by decide) (he : starEach (e :: es) X.env = (false, eval e X.env) :: starEach es X.env := by rfl) (hpl : (backTo pos (starEach es X.env)).any (·.1) = false := by rfl) :
    PE X (.Call (.Name x p) (e :: es) [] pos) (tCall sp [] L2.E0 t) := by
  obtain ⟨f, fd, ps, F, hm, kp, b⟩ := c.ex
  refine ⟨fun pins s σ H Q I h => ?_⟩
  refine wpAny_Call_Name_kw (ld_glob I hg hm ?_ hdb)
  refine PySem.W.callWith_K (h₀ := X.base) I.ok.mod.kin kp (thn (ha.run pos pins s σ H _ I h) fun us s1 ⟨vs, H1, I1, r, q⟩ => ⟨I1.kIn, ?_⟩) he hpl
  have q2 : sp vs H1 Q L2.E0 := by
    have z : sp (vs ++ []) H1 Q L2.E0 := q
    rw [List.append_nil] at z
    exact z
  have hl : (us ++ []).length = ps.length := by rw [List.append_nil, ← r.length]; exact F.many _ _ _ _ q2
  have hb := b s1 us I1.kIn hl
  rw [List.append_nil] at hb
  refine wpAny_call (codeAny_mono (F.goes X.A X.stack s1 H1 ⟨us, []⟩ us vs Q L2.E0 hgd (hr.mono hk) I1.env0 hb r q2) ?_)
  intro o s' hq
  cases o with
  | error e => exact hq.elim
  | ok fl =>
    cases fl with
    | ret u => exact I1.after hq
    | next => exact hq.elim
    | brk => exact hq.elim
    | cont => exact hq.elim
end
/-! ### the end of a law row whose def asks for repr -/
theorem glaw {P : Program} {w : World} {K : PySem.W.Frag} {mg mb : Str → Option Value} {k : Nat} {fa a : Addr} {fd : FuncData} {x : Str} {sp : Sp} {s₁ : Shared} {vs : List Value} {ns : List Int}
    (KX : K.In s₁.heap) (hns : s₁.heap.Ns mainGlobals mg) (hb : s₁.heap.Ns builtinsNs mb) (hbb : ∀ x : Str, x ≠ "__name__" → mb x = bootBuiltins x) (hlim : s₁.heap.NoLimit) (hg : s₁.gens = #[])
    (ha : s₁.heap.get? a = some { cls := .type "list", data := .seq vs.toArray }) (hi : IntsAre vs ns) (hl : ns.length ≤ sizeLine) (hr : Room k callerA)
    (F : ∀ base : Heap, K.In base → base.Ns mainGlobals mg → FnG P w K mg base k fa fd [x] sp) (hbind : ∀ (s : Shared) (u : Value), BindsTo s fd ⟨[u], []⟩ [(x, u)])
    (hsp : ∀ H : Hp, Only H → SqL K H a (ns.map V.int) → sp [.ref a] H (fun v _ => v = .bl true) fun _ _ _ => False) :
    codeAny (model P w) callerA (.call (.ref fa) ⟨[.ref a], []⟩) (fun r s' => r = .ok (.ret (.bool true)) ∧ OldK s₁.heap s'.heap ∧ s'.os = s₁.os ∧ AllBare s'.gens) s₁ := by
  have rv := vals_ints hi
  have heart : ∀ H : Hp, Only H → SqL K H a (ns.map V.int) → HOk P w H s₁.heap → (∀ b, H b ≠ none → b = a) → (H a ≠ none → K.lookup a = none) →
      codeAny (model P w) callerA (.call (.ref fa) ⟨[.ref a], []⟩) (fun r s' => r = .ok (.ret (.bool true)) ∧ OldK s₁.heap s'.heap ∧ s'.os = s₁.os ∧ AllBare s'.gens) s₁ := by
    intro H only hS hok hA hK
    have same : ∀ {b : Addr} {u : HO}, H b = some u → b = a := fun {b u} q => hA b (by rw [q]; exact fun z => nomatch z)
    have stays : ∀ {b : Addr} {o : Obj}, s₁.heap.get? b = some o → H b = none → (hidT s₁.heap H).get? b = some o := fun q n => hidT_get q n
    have dictOff : ∀ {b : Addr} {o : Obj} {es : Array DictEntry} {ep : Nat}, s₁.heap.get? b = some o → o.data = .dict es ep → H b = none := by
      intro b o es ep q d
      cases z : H b with
      | none => rfl
      | some u =>
        have hba := same z
        subst hba
        have eo := Option.some.inj (ha.symm.trans q)
        rw [← eo] at d
        exact nomatch d
    have nsIn : ∀ {b : Addr} {m : Str → Option Value}, s₁.heap.Ns b m → (hidT s₁.heap H).Ns b m := fun ⟨o, es, ep, q, d, r⟩ => ⟨o, es, ep, stays q (dictOff q d), d, r⟩
    have kIn : K.In (hidT s₁.heap H) := by
      intro b o q
      refine stays (KX b o q) ?_
      cases z : H b with
      | none => rfl
      | some u =>
        have hba := same z
        subst hba
        have := hK (by rw [z]; exact fun y => nomatch y)
        rw [this] at q
        exact nomatch q
    have hM : Mod K mg (hidT s₁.heap H) := by
      obtain ⟨mc, l1, l2⟩ := hlim
      exact ⟨kIn, nsIn hns, ⟨mb, nsIn hb, hbb⟩, ⟨mc, nsIn l1, l2⟩⟩
    have e0 : Env0 P w K mg (hidT s₁.heap H) callerA [] s₁ H :=
      ⟨rfl, hM, fun b o q => of_hidT q, Nat.le_of_eq (hidT_size _ _), trivial, fun b hb => absurd (show b ∈ ([] : List Addr) from hb) List.not_mem_nil, hok, .of_eq hg⟩
    refine codeAny_mono ((F _ kIn (nsIn hns)).goes callerA [] s₁ H ⟨[.ref a], []⟩ [.ref a] [.ref a] _ _ rfl hr e0 (hbind s₁ (.ref a)) (.cons rfl .nil) (hsp H only hS)) ?_
    intro r s' h
    cases r with
    | error e => exact h.elim
    | ok fl =>
      cases fl with
      | next => exact h.elim
      | brk => exact h.elim
      | cont => exact h.elim
      | ret u =>
        obtain ⟨v, H', os, bare, un, hok', rr, q⟩ := h
        have q' : v = V.bl true := q
        subst q'
        have eu : u = Value.bool true := rr
        subst eu
        refine ⟨rfl, OldK.of_keep ?_, os, bare⟩
        intro b o q
        cases z : H b with
        | none => exact un.keep b o q z (fun y => absurd (show b ∈ ([] : List Addr) from y) List.not_mem_nil) (fun y => absurd y List.not_mem_nil)
        | some u =>
          rcases only b with y | ⟨ob, xs, y⟩
          · exact nomatch (z.symm.trans y)
          · obtain ⟨e1, _⟩ := hok b _ y
            obtain ⟨e2, _⟩ := hok' b _ (un.frzs b ob _ y)
            have eo := Option.some.inj (q.symm.trans e1)
            rw [eo]
            exact e2
  cases hk : K.lookup a with
  | some o =>
    have eo := Option.some.inj ((KX a o hk).symm.trans ha)
    subst eo
    exact heart (fun _ => none) (fun _ => .inl rfl) (.inr ⟨_, vs.toArray, _, hk, rfl, rfl, rfl, by rw [List.size_toArray, hi.length]; exact hl, by simpa using rv⟩) (fun b u z => nomatch (show (none : Option HO) = some u from z)) (fun b z => absurd rfl z) (fun z => absurd rfl z)
  | none =>
    have there : ∀ b u, (if b = a then some (HO.frz { cls := .type "list", data := .seq vs.toArray } (.lst (ns.map V.int))) else none) = some u → b = a ∧ u = HO.frz { cls := .type "list", data := .seq vs.toArray } (.lst (ns.map V.int)) := by
      intro b u z
      by_cases hba : b = a
      · rw [if_pos hba] at z
        exact ⟨hba, (Option.some.inj z).symm⟩
      · rw [if_neg hba] at z
        exact nomatch z
    refine heart (fun b => if b = a then some (.frz { cls := .type "list", data := .seq vs.toArray } (.lst (ns.map V.int))) else none) ?_ (.inl (.inr ⟨{ cls := .type "list", data := .seq vs.toArray }, if_pos rfl⟩)) ?_ ?_ (fun _ => hk)
    · intro b
      by_cases hba : b = a
      · exact .inr ⟨_, _, if_pos hba⟩
      · exact .inl (if_neg hba)
    · intro b u z
      obtain ⟨e1, e2⟩ := there b u z
      subst e1
      subst e2
      exact ⟨ha, by rw [List.length_map]; exact hl, vs, _, rv, ha⟩
    · intro b z
      by_cases hba : b = a
      · exact hba
      · exact absurd (if_neg hba) z
theorem gwalk {l : PySem.W.OpenLaw} {n k : Nat} {q : Program} {loose : List Str} {XP : (Str → Option Value) → Heap → Prop} {YP : World → Heap → Prop} {d : DefRec} {K : Params → PySem.W.Frag} {sp : World → Sp} {x : Str}
    (hn : l.most = some n) (hn2 : n ≤ sizeLine) (hdf : d.params.defaults = []) (hr : Room k callerA) (hY : ∀ (w : World) (h : Heap), YP w h → (K w.params).In h)
    (F : ∀ (w : World) (mg : Str → Option Value) (fa : Addr) (h : Heap), (K w.params).In h → h.Ns mainGlobals mg → mg d.name = some (.ref fa) →
      ∃ fd : FuncData, (∀ (s : Shared) (u : Value), BindsTo s fd ⟨[u], []⟩ [(x, u)]) ∧ ∀ base : Heap, (K w.params).In base → base.Ns mainGlobals mg → FnG l.prog w (K w.params) mg base k fa fd [x] (sp w))
    (hsp : ∀ (w : World) (H : Hp) (a : Addr) (ns : List Int), ns.length ≤ n → Only H → SqL (K w.params) H a (ns.map V.int) → sp w [.ref a] H (fun v _ => v = .bl true) fun _ _ _ => False) :
    PySem.W.WalkO q loose XP YP l.row.toRowW d [] (fun f vs => PySem.call f vs) := by
  refine Att.attach_call hn hdf ?_
  intro w s₀ s₁ mg mb fa o pm cd doc a vs ns G Y ho hd hcd hmg hobj hints hlen hg
  have KX := hY w _ Y
  obtain ⟨fd, hb, hF⟩ := F w mg fa _ KX G.T.g hmg
  exact glaw KX G.T.g G.T.b G.T.builtins G.T.nolimit hg hobj hints (Nat.le_trans hlen hn2) hr hF hb (fun H only hS => hsp w H a ns hlen only hS)
end Ft

set_option Elab.async false
set_option linter.all false
set_option maxRecDepth 100000
set_option maxHeartbeats 4000000
namespace Ft
open PySem PySem.Spec PyProof.Rows L2
/-! ### set(xs), xs a list of ints -/
/-- an empty set, as it is made -/
abbrev bareSet (w : World) : Obj := { cls := .type "set", dict := none, data := .set #[] 0 (.fresh 0 0 (!w.params.followText "set-order")) }
section
variable {P : Program} {w : World} {A : Around} {E : Value → Shared → Prop} {s : Shared}
set_option maxRecDepth 100000 in
theorem set_of_list {l : Addr} {its : Array Value} (ns : List Int) {Q : Value → Shared → Prop} (calm : A.handled = none) (isl : s.heap.IsList l its) (pIs : IntsAre its.toList ns) (few : ns.length + 1 < scanBound)
    (done : ∀ (h' : Heap) (tk c : Nat), SetR w h' s.heap.objs.size (fun j => decide (j ∈ ns)) c → c ≤ ns.length → (∀ b o, s.heap.get? b = some o → h'.get? b = some o) → Q (.ref s.heap.objs.size) { s with heap := h', toks := tk }) :
    wpAny (model P w) A (call (.type "set") [.ref l]) Q E s := by
  have size : its.size = ns.length := by rw [← IntsAre.length pIs, Array.length_toList]
  obtain ⟨c, tl, way⟩ := F.called_set.mro
  have made := F.called_set.made
  have under := F.called_set.sub
  refine wpAny_call (codeAny_of_tree ?_)
  show wpAny _ _ (callAny (.type "set") _) _ _ _
  refine wpAny_pure (And.intro (Code.quiet_builtin _ (by decide +kernel)) (codeAny_builtin F.entry_type_call ?_))
  rw [Around.under_plain (weight_type_call_type "set" [Value.ref l] []) rfl]
  have k1 := F.called_set.notType
  have k2 := F.called_set.canCreate
  have k3 := F.typeCall_set_1 (Value.ref l)
  repeat (any_goals (first | assumption | wp_step))
  refine codeAny_mono (code_set_led1 (.ref l) (E := E) (Q₁ := fun obj t => obj = .ref s.heap.objs.size ∧ t = { s with heap := s.heap.push (bareSet w) }) ⟨rfl, rfl⟩) fun r t ht => ?_
  match r, ht with
  | .error e, ht => exact ht
  | .ok .next, ht => exact ht
  | .ok .brk, ht => exact ht
  | .ok .cont, ht => exact ht
  | .ok (.ret obj), ht =>
    obtain ⟨e1, e2⟩ := ht
    subst e1 e2
    have atS : (s.heap.push (bareSet w)).get? s.heap.objs.size = some (bareSet w) := Heap.get?_push_size _ rfl
    have tyS : Shared.TypeIs { s with heap := s.heap.push (bareSet w) } (.ref s.heap.objs.size) "set" := ⟨_, atS, rfl⟩
    have look := F.called_set.init.lookup
    have binds := F.called_set.init.bind (.ref s.heap.objs.size)
    repeat (any_goals (first | assumption | wp_step))
    refine codeAny_mono (codeAny_call_builtin (R := wants (fun r u => r = .none ∧ ∃ h' tk c, u = { s with heap := h', toks := tk } ∧ SetR w h' s.heap.objs.size (fun j => decide (j ∈ ns)) c ∧ c ≤ ns.length ∧ (∀ b o, s.heap.get? b = some o → h'.get? b = some o)) E)
      F.called_set.init.plain F.entry_set_init (check_set_init_1 tyS ?_)) fun r2 u hu => ?_
    · obtain ⟨⟨oc, od, dat, osl⟩, hol, hcl, nl, hdl⟩ := isl
      simp only at hcl hdl
      subst hcl hdl
      have atL : (s.heap.push (bareSet w)).get? l = some { cls := .type "list", dict := od, data := .seq its nl, slots := osl } := Heap.get?_push_of_some _ hol
      have q1 := F.sub_list_set
      have q2 := F.sub_list_frozenset
      have q3 : (Value.type "list" == Value.type "dict") = false := by decide
      have isl1 : (s.heap.push (bareSet w)).IsList l its := ⟨_, atL, rfl, nl, rfl⟩
      unfold Builtin.«set.__init__» noKeywords Builtin.Frozenset.updateFrom
      generalize hit : pyIter = it
      wp_walk
      subst hit
      refine wpAny_pyIter_list isl1 ?_
      refine wpAny_bind (wpAny_runValue ?_)
      have below : l < s.heap.objs.size := Heap.lt_size hol
      have calm3 : A.in1.in1.in1.handled = none := by simp [calm]
      have apart : l ≠ (s.heap.push (bareSet w)).objs.size := by
        rw [Heap.size_push]
        exact Nat.ne_of_lt (Nat.lt_succ_of_lt below)
      have apartS : s.heap.objs.size ∉ [(s.heap.push (bareSet w)).objs.size, l] := by
        rw [Heap.size_push]
        simp only [List.mem_cons, List.mem_singleton, List.not_mem_nil, or_false, not_or]
        exact And.intro (Nat.ne_of_lt (Nat.lt_succ_self _)) (Nat.ne_of_gt below)
      have vals : ∀ (i : Nat) (v : Value), its[i]? = some v → ∃ k t, ns[i]? = some k ∧ v = .int k t := by
        intro i v hv
        have hi : i < ns.length := by
          rw [← size]
          exact (Array.getElem?_eq_some_iff.mp hv).1
        obtain ⟨t, e⟩ := PyProof.Rows.IntsAre.int_at pIs i v (by rw [Array.getElem?_toList]; exact hv)
        refine ⟨ns[i], t, List.getElem?_eq_getElem hi, ?_⟩
        rw [e, List.getD_eq_getElem?_getD, List.getElem?_eq_getElem hi]
        rfl
      refine set_update_ints ((Walks.list calm3 _ l apart its).toS) s.heap.objs.size apartS ns size few vals (its.size - 0) 0 _ (by omega) (Nat.zero_le _) ⟨⟨_, Heap.get?_push_size _ rfl, rfl, rfl⟩, isl1.push _⟩ ?start ?ends
      case start =>
        exact ⟨0, Nat.le_refl 0, setR_new_at (Heap.get?_push_of_some _ atS)⟩
      case ends =>
        intro v c' hm hc' hS'
        obtain ⟨h', g2, d', tk', os'⟩ := v
        have eg : g2 = s.gens := hm.gens
        have ed : d' = s.drawn := hm.drawn
        have eo : os' = s.os := hm.os
        subst eg ed eo
        show wpAny _ _ _ _ _ _
        refine wpAny_pure ?_
        show wpAny _ _ (ret Value.none) _ _ _
        rw [size] at hc'
        refine wpAny_pure ⟨rfl, h', tk', c', rfl, hS', hc', ?_⟩
        intro b o e
        have hb0 : b < s.heap.objs.size := Heap.lt_size e
        refine hm.heap b o ?_ (Heap.get?_push_of_some _ (Heap.get?_push_of_some _ e))
        rw [Heap.size_push]
        simp only [List.mem_cons, List.mem_singleton, List.not_mem_nil, or_false, not_or]
        exact And.intro (Nat.ne_of_lt hb0) (Nat.ne_of_lt (Nat.lt_succ_of_lt hb0))
    · match r2, hu with
      | .error e, hu => exact hu
      | .ok .next, hu => exact hu
      | .ok .brk, hu => exact hu
      | .ok .cont, hu => exact hu
      | .ok (.ret u0), hu =>
        obtain ⟨e1, h', tk, c2, e2, hS, hc2, hk⟩ := hu
        subst e1 e2
        repeat (any_goals (first | assumption | wp_step))
        exact done h' tk c2 hS hc2 hk
/-- set(xs) over the layer: a list or a tuple of ints -/
def rSetI (K : PySem.W.Frag) (w : World) : List V → Hp → VK → Prop := fun xs H Q => ∃ (l : Addr) (ns : List Int), xs = [V.ref l] ∧ (SqL K H l (ns.map V.int) ∨ SqT K H l (ns.map V.int)) ∧ ns.length ≤ 1000 ∧
  ∀ (p : Addr) (n : Nat), H p = none → n ≤ ns.length → Q (.ref p) (upd H p (SetO w p (fun j => decide (j ∈ ns)) n))
theorem cr_setI {X : Cx} (hc : X.calm = true) : CallR X (.type "set") (rSetI X.K X.w) := by
  intro pins s σ H xs us Q I r h
  obtain ⟨l, ns, rfl, hl, few, q⟩ := h
  have few1 : ns.length + 1 < scanBound := Nat.lt_of_le_of_lt (Nat.succ_le_succ few) (by decide)
  have free : H s.heap.objs.size = none := I.hok.fresh (Nat.le_refl _)
  rw [Vals.ref1 r]
  rcases hl with hl | hl
  · obtain ⟨its, rv, pl, hz⟩ := I.list hl
    refine set_of_list ns (I.ok.hd hc) pl.isList (by simpa using rv.ints) few1 fun h' tk c hS hc2 hk => ?_
    exact ⟨.ref _, upd H s.heap.objs.size (SetO X.w s.heap.objs.size (fun j => decide (j ∈ ns)) c), I.laid (t' := tk) hk (Nat.le_refl _) (setO_new hS), rfl, q _ _ free hc2⟩
  · obtain ⟨its, rv, pt, hz⟩ := I.tuple hl
    have pt2 : s.heap.IsTuple l its.toArray := pt
    refine call_set_tupI ns (I.ok.hd hc) pt2 (by simpa using ints_of_vals rv) few1 fun h' tk c hS hc2 hk => ?_
    exact ⟨.ref _, upd H s.heap.objs.size (SetO X.w s.heap.objs.size (fun j => decide (j ∈ ns)) c), I.laid (t' := tk) hk (Nat.le_refl _) (setO_new hS), rfl, q _ _ free hc2⟩
end
end Ft

set_option Elab.async false
set_option linter.all false
set_option maxRecDepth 100000
set_option maxHeartbeats 4000000
namespace Ft
open PySem PySem.Spec PyProof.Rows L2
/-! ### sorted of tuples of ints, whatever their lengths -/
abbrev Row := Addr × List Int
def leR (p q : Row) : Bool := decide (p.2 ≤ q.2)
def encR (p : Row) : PyData := .tuple (p.2.map .int)
theorem leR_is : PySem.W.dataLe false encR = leR := by
  funext p q
  show (!PySem.W.dataLt (.tuple (q.2.map .int)) (.tuple (p.2.map .int))) = decide (p.2 ≤ q.2)
  rw [PySem.W.dataLt_tuple]
  have e := PySem.W.dataLt_ints q.2 p.2
  unfold PySem.W.rowLt at e
  rw [e]
  by_cases h : q.2 < p.2
  · have h' : ¬ p.2 ≤ q.2 := fun r => List.not_lt.mpr r h
    simp [h, h']
  · have h' : p.2 ≤ q.2 := List.not_lt.mp h
    simp [h, h']
theorem leR_trans (a b c : Row) (h1 : leR a b = true) (h2 : leR b c = true) : leR a c = true :=
  decide_eq_true (List.le_trans (of_decide_eq_true h1) (of_decide_eq_true h2))
theorem leR_total (a b : Row) : (leR a b || leR b a) = true := by
  rcases List.le_total a.2 b.2 with h | h
  · simp [leR, h]
  · simp [leR, h]
theorem rows_alike (L : List Row) : PySem.W.AllAlike (L.map encR) :=
  PySem.W.AllAlike.of fun b b' => by
    show PySem.W.alike (.tuple (b.2.map .int)) (.tuple (b'.2.map .int)) = true
    simp only [PySem.W.alike]
    exact PySem.W.alike_ints _ _
theorem rows_sortable {L : List Row} (h : ∀ p ∈ L, p.2 ≠ []) : PySem.W.Sortable (L.map encR) := .inl fun d hd => by
  obtain ⟨b, hb, rfl⟩ := List.mem_map.mp hd
  have := h b hb
  show ∃ x r, PyData.tuple (b.2.map .int) = .tuple (x :: r)
  cases e : b.2 with
  | nil => exact absurd e this
  | cons x r => exact ⟨.int x, r.map .int, rfl⟩
theorem rows_deep {A : Around} {k : Nat} {L : List Row} (hu : A.units + k + 1 < cLine) : ∀ b, b ∈ L → A.units + k + (encR b).depth < cLine := by
  intro b _
  have e : (encR b).depth = 1 := by
    show PyData.depth (.tuple (b.2.map .int)) = 1
    simp only [PyData.depth, PySem.W.depth_ints]
  rw [e]
  exact hu
theorem rows_each : ∀ (L : List Row), PySem.W.EachIs (fun v (p : Row) => v = Value.ref p.1) (L.map fun p => Value.ref p.1) L
  | [] => .nil
  | p :: L => .cons rfl (rows_each L)
theorem rows_back : ∀ {vs : List Value} {L : List Row}, PySem.W.EachIs (fun v (p : Row) => v = Value.ref p.1) vs L → vs = L.map fun p => Value.ref p.1
  | _, _, .nil => rfl
  | _, _, .cons h t => by rw [h, rows_back t]; rfl
section
variable {X : Cx} {pins : List (Addr × Obj)} {σ : L2.St} {H : Hp} {s : Shared}
theorem dpAll_ints {K : PySem.W.Frag} {H : Hp} : ∀ ns : List Int, DpAll K H (ns.map V.int) (ns.map PyData.int)
  | [] => .nil
  | n :: ns => .cons (.int n) (dpAll_ints ns)
theorem rows_read (I : Inv X pins σ H s) : ∀ (L : List Row), (∀ p ∈ L, SqT X.K H p.1 (p.2.map V.int)) → PySem.W.EachIs (fun v b => ∃ as, Reads s.heap v (encR b) as) (L.map fun p => Value.ref p.1) L
  | [], _ => .nil
  | p :: L, h => .cons (Dp.reads I (encR p) (.ref p.1) (.ref p.1) (.tup (h p List.mem_cons_self) (dpAll_ints p.2)) rfl) (rows_read I L fun q hq => h q (List.mem_cons_of_mem _ hq))
end
/-- sorted(xs), xs a list of tuples of ints -/
def rSortedR (K : PySem.W.Frag) : List V → Hp → VK → Prop := fun vs H Q => ∃ (a : Addr) (L : List Row), vs = [V.ref a] ∧ SqL K H a (L.map fun p => V.ref p.1) ∧ (∀ p ∈ L, SqT K H p.1 (p.2.map V.int)) ∧ (∀ p ∈ L, p.2 ≠ []) ∧
  ∀ p, H p = none → Q (.ref p) (upd H p (.lst ((L.mergeSort leR).map fun p => V.ref p.1)))
theorem cr_sortedR {X : Cx} (hu : X.A.units + 64 < cLine) : CallR X (.builtin "sorted") (rSortedR X.K) := by
  intro pins s σ H xs us Q I r h
  obtain ⟨a, L, rfl, hl, hk, hne, q⟩ := h
  rw [Vals.ref1 r]
  obtain ⟨its, rv, pl, hz⟩ := I.list hl
  have ei : its = L.map fun p => Value.ref p.1 := refs_of_vals rv
  subst ei
  have hz2 : L.length ≤ sizeLine := by simpa using hz
  refine PySem.W.sorted_data (bs := L) (enc := encR) pl.isList (rows_each L) (rows_read I L hk) (rows_alike L) (rows_sortable hne) hz2 (rows_deep (k := 2) (by omega)) fun out hlen he => ?_
  rw [leR_is] at he
  have eo := rows_back he
  subst eo
  obtain ⟨ep, ho⟩ := PyProof.Rows.sortedAll_at s.heap (L.map fun p => Value.ref p.1) ((L.mergeSort leR).map fun p => Value.ref p.1).toArray
  refine ⟨.ref _, upd H (s.heap.objs.size + 1) (.lst ((L.mergeSort leR).map fun p => V.ref p.1)), I.laid (t' := s.toks) (fun _ _ => PyProof.Rows.sortedAll_old) (Nat.le_succ _) ⟨?_, _, ep, vals_of_refs _, ho⟩, rfl, q _ (I.hok.fresh (Nat.le_succ _))⟩
  rw [List.length_map, List.length_mergeSort]
  exact hz2
/-- sorted of a set of tuples of ints -/
theorem rows_order {L : List Row} : ∀ {vs : List Value}, (∀ v ∈ vs, ∃ q ∈ L, v = Value.ref q.1) → ∃ L1 : List Row, vs = L1.map (fun q => Value.ref q.1) ∧ ∀ q ∈ L1, q ∈ L
  | [], _ => ⟨[], rfl, fun q hq => nomatch hq⟩
  | v :: vs, h => by
    obtain ⟨q, hq, e⟩ := h v List.mem_cons_self
    obtain ⟨L1, e1, h1⟩ := rows_order (vs := vs) fun u hu => h u (List.mem_cons_of_mem _ hu)
    refine ⟨q :: L1, by rw [e, e1]; rfl, fun r hr => ?_⟩
    cases hr with
    | head => exact hq
    | tail _ z => exact h1 r z
section
variable {P : Program} {w : World} {A : Around} {E : Value → Shared → Prop} {s : Shared}
theorem nodup_back {α β : Type} {f : α → β} : ∀ {l : List α}, (l.map f).Nodup → l.Nodup
  | [], _ => List.nodup_nil
  | a :: l, h => by
    obtain ⟨h1, h2⟩ := List.nodup_cons.mp h
    exact List.nodup_cons.mpr ⟨fun z => h1 (List.mem_map.mpr ⟨a, z, rfl⟩), nodup_back h2⟩
theorem sorted_rows {a : Addr} {L : List Row} {es : Array (Int × Value)} {ep : Nat} {t : SetTable} {Q : Value → Shared → Prop} (R : SetTR P w s.heap a L es ep t) (hh : A.handled = none) (hu : A.units + 64 < cLine) (hne : ∀ p ∈ L, p.2 ≠ [])
    (rd : ∀ p ∈ L, ∃ as, Reads s.heap (.ref p.1) (encR p) as)
    (done : ∀ s' p (c : Nat) (L' : List Row), (∀ b o, s.heap.get? b = some o → s'.heap.get? b = some o) → s'.gens = s.gens → s'.os = s.os → s.heap.objs.size ≤ p →
      s'.heap.get? p = some (seqObj "list" (L'.map fun q => Value.ref q.1).toArray c) → L'.Perm L → L'.Pairwise (fun q r => q.2 ≤ r.2) → Q (.ref p) s') :
    wpAny (model P w) A (call (.builtin "sorted") [.ref a]) Q E s := by
  obtain ⟨o, ho, hex, hd⟩ := R.ob
  have size := R.size
  have few := R.few
  refine Calls.call_function_entry kind_sorted plain_sorted entry_sorted (args_sorted1 _) ?_
  unfold Builtin.«sorted»
  refine wpAny_bind (m := checkCount "sorted" 1 1 _) (wpAny_pure ?_)
  refine wpAny_bind (collect_set (A := A.in1) hh ⟨o, ho, hex.1, hd⟩ R.fits (by rw [size]; exact Nat.lt_trans few (by decide)) R.tab.ris R.led fun s1 vs k1 hz g1 o1 pm => ?_)
  have rows : es.toList.map (·.2) = L.map fun q => Value.ref q.1 := by
    rw [R.rows]
    unfold rowsOf
    rw [List.map_map]
    rfl
  rw [rows] at pm
  obtain ⟨L1, e1, sub1⟩ := rows_order (L := L) (vs := vs) fun v hv => by
    obtain ⟨q, hq, e⟩ := List.mem_map.mp (pm.mem_iff.mp hv)
    exact ⟨q, hq, e.symm⟩
  have apart : ∀ q ∈ L, ∀ r ∈ L, q.1 = r.1 → q = r := by
    intro q hq r hr e
    have t1 := R.tup q hq
    have t2 := R.tup r hr
    rw [e] at t1
    exact Prod.ext e (t1.inj t2)
  have pm1 : L1.Perm L := by
    have nL : L.Nodup := nodup_back R.nd
    have nR : (L.map fun q => Value.ref q.1).Nodup := by
      refine List.pairwise_map.mpr (List.Pairwise.imp_of_mem (fun {q r} hq hr hn e => ?_) nL)
      injection e with e
      exact hn (apart q hq r hr e)
    rw [e1] at pm
    refine (List.perm_ext_iff_of_nodup (nodup_back (pm.nodup_iff.mpr nR)) nL).mpr fun q => ⟨sub1 q, fun hq => ?_⟩
    obtain ⟨r, hr, e⟩ := List.mem_map.mp (pm.mem_iff.mpr (List.mem_map.mpr ⟨q, hq, rfl⟩))
    injection e with e
    rw [← apart r (sub1 r hr) q hq e]
    exact hr
  subst e1
  have len1 : L1.length < 64 := by rw [pm1.length_eq]; exact few
  have line1 : L1.length ≤ sizeLine := by rw [sizeLine_eq]; omega
  refine wpAny_bind (wpAny_newList ?_ (by simpa using line1))
  have hoL : (s1.heap.push (seqObj "list" (L1.map fun q => Value.ref q.1).toArray 0)).get? s1.heap.objs.size = some (seqObj "list" (L1.map fun q => Value.ref q.1).toArray 0) := Heap.get?_push_size _ rfl
  have er : ∀ (M : List Row), (∀ q ∈ M, q ∈ L) → PySem.W.EachIs (fun v b => ∃ as, Reads (s1.heap.push (seqObj "list" (L1.map fun q => Value.ref q.1).toArray 0)) v (encR b) as ∧ s1.heap.objs.size ∉ as) (M.map fun p => Value.ref p.1) M := by
    intro M
    induction M with
    | nil => intro _; exact .nil
    | cons p M ih =>
      intro hM
      obtain ⟨as, r0⟩ := rd p (hM p List.mem_cons_self)
      have r1 := PyProof.Rows.Reads.keeps (h' := s1.heap.push (seqObj "list" (L1.map fun q => Value.ref q.1).toArray 0)) (fun b u e => Heap.get?_push_of_some _ (k1 b u e)) r0
      refine .cons ⟨as, r1, ?_⟩ (ih fun q hq => hM q (List.mem_cons_of_mem _ hq))
      have flat : ∀ {h : Heap} {ns : List Int} {us : List Value} {bs : List Addr}, ReadsAll h us (ns.map PyData.int) bs → bs = [] := by
        intro h ns
        induction ns with
        | nil => intro us bs z; cases z; rfl
        | cons n ns ih2 =>
          intro us bs z
          cases z with
          | cons z1 z2 =>
            cases z1
            rw [ih2 z2]
            rfl
      have e0 : as = [] := by
        cases r0 with
        | tuple _ _ _ z => exact flat z
      rw [e0]
      exact List.not_mem_nil
  refine wpAny_bind (wpAny_holding (PySem.W.list_sort_data (s := { s1 with heap := s1.heap.push (seqObj "list" (L1.map fun q => Value.ref q.1).toArray 0) }) (R := fun v (p : Row) => v = Value.ref p.1) (bs := L1) (enc := encR) hoL (rows_each L1) (er L1 sub1) (rows_alike L1)
    (rows_sortable fun p hp => hne p (sub1 p hp)) line1 (rows_deep (k := 1) (by show A.units + 1 + 1 + 1 < cLine; omega)) fun out hlen he => ?_))
  rw [leR_is] at he
  have eo := rows_back he
  subst eo
  obtain ⟨c, hc⟩ := sortedHeap_at (vs := L1.map fun q => Value.ref q.1) (out := ((L1.mergeSort leR).map fun q => Value.ref q.1).toArray) hoL
  refine wpAny_pure ⟨_, rfl, done _ s1.heap.objs.size c (L1.mergeSort leR) (fun b u e => ?_) g1 o1 hz hc ((List.mergeSort_perm L1 leR).trans pm1) ?_⟩
  · have q := k1 b u e
    have hlt := Heap.lt_size q
    show (sortedHeap (s1.heap.push (seqObj "list" (L1.map fun q => Value.ref q.1).toArray 0)) s1.heap.objs.size (L1.map fun q => Value.ref q.1) _).get? b = some u
    rw [sortedHeap_old (Nat.ne_of_lt hlt) (by rw [size_push']; exact Nat.lt_succ_of_lt hlt)]
    exact Heap.get?_push_of_some _ q
  · exact (List.pairwise_mergeSort leR_trans leR_total L1).imp fun h => of_decide_eq_true h
end
/-- sorted(set), any tuples of ints -/
def rSortedS (K : PySem.W.Frag) (P : Program) (w : World) : List V → Hp → VK → Prop := fun vs H Q => ∃ (a : Addr) (L : List Row), vs = [V.ref a] ∧ H a = some (SetTO P w a L) ∧ (∀ p ∈ L, SqT K H p.1 (p.2.map V.int)) ∧ (∀ p ∈ L, p.2 ≠ []) ∧
  ∀ (L' : List Row) (p : Addr), L'.Perm L → (L'.map (·.2)).Nodup → L'.length < 64 → L'.Pairwise (fun q r => q.2 ≤ r.2) → H p = none → Q (.ref p) (upd H p (.lst (L'.map fun q => V.ref q.1)))
theorem cr_sortedSR {X : Cx} (hc : X.calm = true) (hu : X.A.units + 64 < cLine) : CallR X (.builtin "sorted") (rSortedS X.K X.prog X.w) := by
  intro pins s σ H xs us Q I r h
  obtain ⟨a, L, rfl, ha, hk, hne, q⟩ := h
  obtain ⟨es, ep, t, R⟩ := SetT0.full (I.hok a _ ha).1 fun p hp => I.isT (hk p hp)
  rw [Vals.ref1 r]
  refine sorted_rows R (I.ok.hd hc) hu hne (fun p hp => Dp.reads I (encR p) (.ref p.1) (.ref p.1) (.tup (hk p hp) (dpAll_ints p.2)) rfl) fun s' p c L' k g o hp hg pm pw => ?_
  have few : L'.length < 64 := by rw [pm.length_eq]; exact R.few
  have line : (L'.map fun q => V.ref q.1).length ≤ sizeLine := by rw [List.length_map, sizeLine_eq]; omega
  have free : H p = none := I.hok.fresh hp
  have J : Inv X pins σ (upd H p (.lst (L'.map fun q => V.ref q.1))) s' := I.call' (s' := s') (ch := []) o (Un.laid k hp free) (I.hok.laid k hp ⟨line, _, c, vals_of_refs L', hg⟩) (by rw [g]; exact I.bare) (fun _ z => nomatch z)
  exact ⟨.ref p, _, J, rfl, q L' p pm ((pm.map (·.2)).nodup_iff.mpr R.nd) few pw free⟩
end Ft

set_option Elab.async false
set_option linter.all false
set_option maxRecDepth 100000
set_option maxHeartbeats 4000000
namespace Ft
open PySem PySem.Spec PyProof.Rows L2
/-! ### a def that may be called by its name -/
structure Cal (P : Program) (w : World) (K : PySem.W.Frag) (mg : Str → Option Value) (base : Heap) (k : Nat) (x : Str) (sp : Sp) : Prop where
  ex : ∃ (f : Addr) (fd : FuncData) (ps : List Str), FnOk P w K mg base L2.CX0 k f fd ps sp ∧ mg x = some (.ref f) ∧ PySem.W.keepIn K (.ref f) = true ∧ Binds K fd ps []
theorem pe_c {X : Cx} {k j : Nat} {x : Str} {sp : Sp} {p pos : Pos} {e : Expr} {es : List Expr} {t : TA} (c : Cal X.prog X.w X.K X.mg X.base k x sp) (hr : Room j X.A) (hk : k ≤ j) (hg : Gl X x) (ha : PA X (e :: es) t)
    (hdb : (x == ("__debug__" : Str)) = false := by decide) (he : starEach (e :: es) X.env = (false, eval e X.env) :: starEach es X.env := by rfl) (hpl : (backTo pos (starEach es X.env)).any (·.1) = false := by rfl) :
    PE X (.Call (.Name x p) (e :: es) [] pos) (tCall sp [] L2.E0 t) := by
  obtain ⟨f, fd, ps, F, hm, kp, b⟩ := c.ex
  exact pe_call F (hr.mono hk) hg hm kp b .nil L2.pass0 ha hdb he hpl
/-- a def of the module as it stands behind the top, under its name -/
structure Def (K : PySem.W.Frag) (mg : Str → Option Value) (x : Str) (st : Stmt) : Prop where
  ex : ∃ (f : Addr) (fd : FuncData), L2.Fun K x x st f fd ∧ mg x = some (.ref f)
theorem cal_of {P : Program} {w : World} {K : PySem.W.Frag} {mg : Str → Option Value} {base : Heap} {x : Str} {st : Stmt} {N ps : List Str} {k : Nat} {sp : Sp} (D : Def K mg x st) (S : FnScope N ps (L2.defScope st))
    (bd : ∀ (kV doc pm : Value) (an : Option Addr) (cdv ct : Value) (us : List Value), us.length = ps.length → bindArgs (PySem.W.fnOf x x (L2.defArgs st) (L2.defBody st) (L2.defScope st) .none kV doc pm an cdv ct) ⟨us, []⟩ = pure (ps.zip us))
    (len : ∀ vs H Q E, sp vs H Q E → vs.length = ps.length)
    (body : ∀ (f : Addr) (cdv : Value) (A : Around) (outer : List Env) (s : Shared) (H : Hp) (vs : List V) (Q : VK) (E : XK), Room k (A.deeper (envOfC x (L2.defScope st) s.heap.objs.size f cdv)) → sp vs H Q E →
      ∃ t, PSs (cxOf L2.CX0 P w K mg base N x (L2.defScope st) f cdv A outer s H E).nox (L2.defBody st) t ∧ t { nx := fun _ H' => Q .non H', rt := Q } (start N vs) H) : Cal P w K mg base (k + 1) x sp := by
  obtain ⟨f, fd, F, hm⟩ := D.ex
  exact ⟨f, fd, ps, F.ok S len (body f), hm, F.kp, F.binds bd⟩
theorem calG_of {P : Program} {w : World} {K : PySem.W.Frag} {mg : Str → Option Value} {base : Heap} {x : Str} {st : Stmt} {N ps : List Str} {k : Nat} {sp : Sp} (D : Def K mg x st) (S : FnScope N ps (L2.defScope st))
    (bd : ∀ (kV doc pm : Value) (an : Option Addr) (cdv ct : Value) (us : List Value), us.length = ps.length → bindArgs (PySem.W.fnOf x x (L2.defArgs st) (L2.defBody st) (L2.defScope st) .none kV doc pm an cdv ct) ⟨us, []⟩ = pure (ps.zip us))
    (len : ∀ vs H Q E, sp vs H Q E → vs.length = ps.length)
    (body : ∀ (f : Addr) (cdv : Value) (A : Around) (out : List Env) (s : Shared) (H : Hp) (vs : List V) (Q : VK) (E : XK), A.guards = some [] → Room k (A.deeper (envOfC x (L2.defScope st) s.heap.objs.size f cdv)) → sp vs H Q E →
      ∃ t, PSs (cxOf L2.CX0 P w K mg base N x (L2.defScope st) f cdv A out s H E).nox (L2.defBody st) t ∧ t { nx := fun _ H' => Q .non H', rt := Q } (start N vs) H) : CalG P w K mg base (k + 1) x sp := by
  obtain ⟨f, fd, F, hm⟩ := D.ex
  exact ⟨f, fd, ps, gfun F S len (body f), hm, F.kp, F.binds bd⟩

/-! ### enumerate(tuple) -/
theorem enum_newT (l : Addr) (items : Array Value) (n : Nat) (dct : Option Addr) (sl : Array (Option Value)) :
    Meets (Builtin.«enumerate.__new__» ⟨[.type "enumerate", .ref l], []⟩) (fun _ R s => s.heap.get? l = some { cls := .type "tuple", dict := dct, data := .seq items n, slots := sl } ∧
      R (.ok (.ret (.ref (s.heap.push { cls := .type "tuple_iterator", data := .fields #[.ref l, .int 0 0] }).objs.size)))
        { s with heap := (s.heap.push { cls := .type "tuple_iterator", data := .fields #[.ref l, .int 0 0] }).push { cls := .type "enumerate", data := .fields #[.none, .bool false, .ref s.heap.objs.size, rawInt 0, .none, .none] } }) :=
  .of_wp fun prog w A R s h => by
    obtain ⟨hp, g, d, tk, os⟩ := s
    obtain ⟨hl, h⟩ := h
    have sub := sub_enumerate
    have tup : Heap.IsTuple (Shared.heap ⟨hp, g, d, tk, os⟩) l items := ⟨_, hl, rfl, n, rfl⟩
    wp_walk using PySem.AutoSeq1.wpAny_loadPart' hl
    refine wpAny_stack_any fun st => wpAny_pure ?_
    split
    · rename_i c _ _ _ _ _
      cases (c == Value.type "enumerate")
      · wp_walk using PySem.AutoSeq1.wpAny_loadPart' hl, wpAny_pyIter_tuple tup
        exact ⟨_, rfl, h⟩
      · wp_walk using PySem.AutoSeq1.wpAny_loadPart' hl, wpAny_pyIter_tuple tup
        exact ⟨_, rfl, h⟩
    · wp_walk using PySem.AutoSeq1.wpAny_loadPart' hl, wpAny_pyIter_tuple tup
      exact ⟨_, rfl, h⟩
theorem enum_tuple {prog : Program} {w : World} {A : Around} {E : Value → Shared → Prop} {s : Shared} {l : Addr} {items : Array Value} {Q : Value → Shared → Prop} (hL : s.heap.IsTuple l items)
    (h : ∀ h', IsEnum h' (s.heap.objs.size + 1) s.heap.objs.size 0 .none → h'.IsTupleIter s.heap.objs.size l 0 → h'.objs.size = s.heap.objs.size + 2 → (∀ b o, s.heap.get? b = some o → h'.get? b = some o) → Q (.ref (s.heap.objs.size + 1)) { s with heap := h' }) :
    wpAny (model prog w) A (call (.type "enumerate") [.ref l]) Q E s := by
  obtain ⟨⟨c, dct, dt, sl⟩, hl, hc, n, hd⟩ := hL
  replace hc : c = .type "tuple" := hc
  replace hd : dt = .seq items n := hd
  subst hc hd
  refine callType_new F.called_enumerate (by decide) (F.typeCall_enumerate_1 _) (F.newCall_enumerate_1 _) (fun obj => F.args_object_init_2 obj _) F.entry_enumerate_new (enum_newT l items n dct sl) ⟨hl, ?_⟩
  have hz : (s.heap.push { cls := .type "tuple_iterator", data := .fields #[.ref l, .int 0 0] }).objs.size = s.heap.objs.size + 1 := Heap.size_push ..
  show _ ∧ _
  rw [hz]
  have he : IsEnum ((s.heap.push { cls := .type "tuple_iterator", data := .fields #[.ref l, .int 0 0] }).push { cls := .type "enumerate", data := .fields #[.none, .bool false, .ref s.heap.objs.size, rawInt 0, .none, .none] }) (s.heap.objs.size + 1) s.heap.objs.size 0 .none := by
    have q := Heap.get?_push_size (s.heap.push { cls := .type "tuple_iterator", data := .fields #[.ref l, .int 0 0] }) (o := { cls := .type "enumerate", data := .fields #[.none, .bool false, .ref s.heap.objs.size, rawInt 0, .none, .none] }) rfl
    rw [hz] at q
    exact q
  exact ⟨⟨_, he, rfl⟩, h _ he ⟨_, Heap.get?_push_of_some _ (Heap.get?_push_size _ rfl), rfl, rfl⟩ (by rw [Heap.size_push, hz]) fun b o x => Heap.get?_push_of_some _ (Heap.get?_push_of_some _ x)⟩
def IteT (K : PySem.W.Frag) (a : Addr) : It :=
  ⟨fun i H => ∃ (xs : List V) (x : V), SqT K H a xs ∧ xs[i]? = some x, fun i H v H' => ∃ T x, v = .ref T ∧ H T = none ∧ H' = upd H T (.tup [.int (i : Nat), x]) ∧ ∀ xs, SqT K H a xs → xs[i]? = some x, fun i H => ∃ xs : List V, SqT K H a xs ∧ xs.length = i⟩
theorem turn_enumT {P : Program} {w : World} {K : PySem.W.Frag} {elts : List Expr} {kk : Nat} {tpos : Pos} (a e it : Addr) :
    Turn P w K (.Tuple elts kk tpos) (IteT K a) [e, it] e (fun i h => (∃ old, IsEnum h e it ((i : Nat) : Int) old) ∧ h.IsTupleIter it a i ∧ e ≠ it ∧ a ≠ it ∧ e ≠ a) where
  mem := by simp
  obj := fun i h st b hb => by
    obtain ⟨⟨old, he⟩, ⟨o, ho, hc, hd⟩, _⟩ := st
    have e' : b = e ∨ b = it := by simpa using hb
    rcases e' with z | z
    · rw [z]; exact ⟨_, he, fun v q => nomatch q⟩
    · rw [z]; exact ⟨o, ho, fun v q => by rw [hd] at q; cases q⟩
  keep := fun i h h' st k => let ⟨⟨old, he⟩, hi, hne⟩ := st; ⟨⟨old, k e (by simp) _ he⟩, hi.at fun o q => k it (by simp) o q, hne⟩
  item := by
    intro X hP hw hK hc i pins s σ H E I hf st hg
    subst hP hw hK
    obtain ⟨⟨old, he⟩, hit, hne, hai, hea⟩ := st
    obtain ⟨xs, x, hq, hx⟩ := hg
    obtain ⟨its, rv, p, hz⟩ := I.tuple hq
    have pt : s.heap.IsTuple a its.toArray := p
    obtain ⟨u, hu, ru⟩ := rv.get hx
    have hel : e < s.heap.objs.size := Heap.lt_size he
    have hil : it < s.heap.objs.size := by obtain ⟨_, q, _⟩ := hit; exact Heap.lt_size q
    have hlt : i < its.toArray.size := by
      have := (List.getElem?_eq_some_iff.mp hu).1
      simpa using this
    refine wpAny_pyNext_enum_itemD (Draws.tuple (A := X.A.in1) (by simpa using I.ok.hd hc) it a hai its.toArray) he ⟨hit, pt⟩ hlt hne (by simp [hne, hea]) fun y h' tk hy ho hit' hT hsz hk => ?_
    have eu : y = u := by
      have z : its[i]? = some y := by simpa using hy
      exact Option.some.inj (z.symm.trans hu)
    subst eu
    refine ⟨_, rfl, wpAny_letOwnedTupleGo_enum (s := { s with heap := h', toks := tk + 1 }) ho fun h'' he' sb => ?_⟩
    have hT2 : h''.get? s.heap.objs.size = some { cls := .type "tuple", data := .seq #[.int i tk, y] } := (sb.2 _ (Nat.ne_of_gt hel)).trans hT
    have new : ObjOk X.prog X.w (upd H s.heap.objs.size (.tup [.int (i : Nat), x])) h'' s.heap.objs.size (.tup [.int (i : Nat), x]) :=
      ⟨by show 2 ≤ sizeLine; decide, [.int i tk, y], .cons ⟨_, rfl⟩ (.cons ru .nil), ⟨_, hT2, rfl, _, rfl⟩⟩
    have I1 : Inv X pins σ (upd H s.heap.objs.size (.tup [.int (i : Nat), x])) { s with heap := h'', toks := tk + 1 } :=
      I.turnedNew (ch := [e, it]) (fun b ob hb q => (sb.2 b (fun z => hb (by simp [z]))).trans (hk b ob (fun z => hb (by simp [z])) (fun z => hb (by simp [z])) q)) hf (Nat.le_refl _) new
    refine ⟨.ref s.heap.objs.size, _, I1, rfl, ⟨_, x, rfl, I.hok.fresh (Nat.le_refl _), rfl, fun ys hy => by rw [I.tuple_inj hy hq]; exact hx⟩, ⟨⟨y, ?_⟩, hit'.1.at fun o q => (sb.2 it (Ne.symm hne)).trans q, hne, hai, hea⟩, fun b hb => ?_⟩
    · have e1 : ((i + 1 : Nat) : Int) = (i : Int) + 1 := by omega
      rw [e1]; exact he'
    · have e' : b = e ∨ b = it := by simpa using hb
      have hb' : b < s.heap.objs.size := by
        rcases e' with z | z
        · rw [z]; exact hel
        · rw [z]; exact hil
      rw [upd_ne (Nat.ne_of_lt hb')]
      exact (hf b hb).1
  done := by
    intro X hP hw hK hc i pins s σ H E I hf st hg
    subst hP hw hK
    obtain ⟨⟨old, he⟩, hit, hne, hai, hea⟩ := st
    obtain ⟨xs, hq, hx⟩ := hg
    obtain ⟨its, rv, p, hz⟩ := I.tuple hq
    have pt : s.heap.IsTuple a its.toArray := p
    obtain ⟨f0, f1, f2, f3, f4, f5⟩ := hf it (by simp)
    have hl : its.toArray.size = i := by
      rw [← hx, rv.length]
      simp
    refine wpAny_pyNext_enum_endD (Draws.tuple (A := X.A.in1) (by simpa using I.ok.hd hc) it a hai its.toArray) he ⟨by rw [hl]; exact hit, pt⟩ fun h' eb => ⟨rfl, I.turned (t' := s.toks) (fun b o hb q => eb b o hb q) f0 f1 f3 f4 f5⟩
  self := fun A i s Q E st h => let ⟨⟨_, he⟩, _⟩ := st; wpAny_pyIter_enum he h
def iEnumT (K : PySem.W.Frag) (ta : TA) : TI := fun σ H R => ta σ H fun vs H1 => ∃ a xs, vs = [.ref a] ∧ SqT K H1 a xs ∧ R (IteT K a) H1
theorem pi_enumT {X : Cx} {e : Expr} {ta : TA} {p pos tpos : Pos} {elts : List Expr} {kk : Nat} (hg : Gl X "enumerate") (hm : X.mg "enumerate" = none) (ha : PA X [e] ta) (hs : starEach [e] X.env = [(false, eval e X.env)] := by rfl) :
    PI X (.Tuple elts kk tpos) (.Call (.Name "enumerate" p) [e] [] pos) (iEnumT X.K ta) := by
  refine ⟨fun pins s σ H R I h => ?_⟩
  refine Call_ (ld_blt I hg hm boot_enumerate (PyProof.Rows.callWith_type1 (thn (ha.run pos pins s σ H _ I h) fun us s1 ⟨vs, H1, I1, r1, q1⟩ => ?_) hs rfl))
  obtain ⟨a, xs, ex, hq, q⟩ := q1
  subst ex
  cases r1 with
  | cons r rr =>
    cases rr
    cases r
    obtain ⟨its, rv, p', hz⟩ := I1.tuple hq
    have pt : s1.heap.IsTuple a its.toArray := p'
    have below : a < s1.heap.objs.size := by obtain ⟨_, q, _⟩ := pt; exact Heap.lt_size q
    refine enum_tuple pt fun h' he hit hsz hk => wpAny_pyIter_enum he ?_
    have I2 : Inv X pins σ H1 { s1 with heap := h' } := I1.kept (t' := s1.toks) hk
    refine ⟨s1.heap.objs.size + 1, [s1.heap.objs.size + 1, s1.heap.objs.size], _, _, H1, rfl, I2, turn_enumT a (s1.heap.objs.size + 1) s1.heap.objs.size, ⟨⟨.none, he⟩, hit, Nat.succ_ne_self _, Nat.ne_of_lt below, Nat.ne_of_gt (Nat.lt_succ_of_lt below)⟩, fun b hb => ?_, q⟩
    have e' : b = s1.heap.objs.size + 1 ∨ b = s1.heap.objs.size := by simpa using hb
    have hle : s1.heap.objs.size ≤ b := by
      rcases e' with z | z
      · rw [z]; exact Nat.le_add_right _ _
      · rw [z]; exact Nat.le_refl _
    exact I1.fpOk hle (I1.hok.fresh hle)
theorem walk_enumT {K : PySem.W.Frag} {a : Addr} {xs : List V} : L2.Walk (IteT K a) xs.length (fun H => SqT K H a xs) (YPair (fun i => some (.int (i : Nat))) (fun i => xs[i]?)) :=
  ⟨fun i H hi q => ⟨xs, xs[i], q, by simp [hi]⟩, fun H q => ⟨xs, q, rfl⟩, fun i H x H' hi q ⟨T, y, e1, e2, e3, e4⟩ => ⟨T, _, y, e1, e2, e3, rfl, e4 xs q⟩⟩

/-! ### a dict comprehension over any walk -/
theorem dc_it {J : It} {n : Nat} {G : Hp → Prop} {Y : Nat → Hp → V → Hp → Prop} (w : L2.Walk J n G Y) {g : TG} {tt : TT} {tk tv : TE} {vs : List Nat} {σ : L2.St} {H1 : Hp} {D : Addr} {Qd : Hp → Prop} (Pv : Nat → Hp → Prop) (h0 : Pv 0 (upd H1 D (.dK []))) (hG : ∀ i H, i ≤ n → Pv i H → G H)
    (hs : ∀ i x H H', i < n → Pv i H → Y i H x H' → g x (wipe σ vs) H' fun σ2 H2 => wipe σ2 vs = wipe σ vs ∧ tt σ2 H2 fun b H3 =>
      if b = true then tk σ2 H3 fun y H4 => tv σ2 H4 fun z H5 => ∃ kvs k, y = kV k ∧ H5 D = some (.dK kvs) ∧ kvs.length < sizeLine ∧ Pv (i + 1) (upd H5 D (.dK (putK kvs k z))) else Pv (i + 1) H3) (hd : ∀ H, Pv n H → Qd H) :
    ∃ W : Nat → Nat → Hp → Prop, (∃ m, W 0 m (upd H1 D (.dK []))) ∧ ∀ i m H, W i m H →
      (J.stop i H ∧ Qd H) ∨ (J.go i H ∧ ∃ Nx : Hp → Prop, (∀ H', Nx H' → ∃ m', m' < m ∧ W (i + 1) m' H') ∧ ∀ x H', J.yld i H x H' → g x (wipe σ vs) H' fun σ2 H2 => wipe σ2 vs = wipe σ vs ∧ tt σ2 H2 fun b H3 =>
        if b = true then tk σ2 H3 fun y H4 => tv σ2 H4 fun z H5 => ∃ kvs k, y = kV k ∧ H5 D = some (.dK kvs) ∧ kvs.length < sizeLine ∧ Nx (upd H5 D (.dK (putK kvs k z))) else Nx H3) := by
  refine ⟨fun i m H => m = n - i ∧ i ≤ n ∧ Pv i H, ⟨n, rfl, Nat.zero_le _, h0⟩, fun i m H ⟨em, hi, p⟩ => ?_⟩
  subst em
  have q := hG i H hi p
  rcases Nat.lt_or_eq_of_le hi with hlt | e
  · exact .inr ⟨w.goes i H hlt q, Pv (i + 1), fun H' p' => ⟨n - (i + 1), by omega, rfl, hlt, p'⟩, fun x H' y => hs i x H H' hlt p (w.yields i H x H' hlt q y)⟩
  · subst e
    exact .inl ⟨w.stops H q, hd H p⟩

/-! ### isinstance, one class -/
theorem isi_tuple {K : PySem.W.Frag} {H : Hp} {a : Addr} {xs : List V} (h : SqT K H a xs) : TyX K H (.ref a) (.type "tuple") := by
  rcases h with (h | ⟨o, h⟩) | ⟨o, _, _, e, c, _⟩
  · exact .base (.tup h)
  · exact .fTuple h
  · exact .kTuple e c
end Ft
namespace Ft
open PySem PySem.Spec PyProof.Rows L2
/-- a block within a block -/
theorem blkIn {N : List Str} {env : Env} {cl : List (Str × Addr)} {C : Addr} {scope inner sc : Scope} {own : List (Str × Nat)} (he : env.scope = sc) (h : blkC N (relS scope sc) inner own = true) : BlkOk N (compEnvC scope cl C env).scope inner own := by
  subst he
  exact blkOk_by h
end Ft
namespace Ft
open PySem PySem.Spec PyProof.Rows L2
/-! ### the layer's rules whose reading names the written part, under names of their own -/
def rLenS (K : PySem.W.Frag) : List V → Hp → VK → Prop := fun xs H Q => ∃ p ys, xs = [.ref p] ∧ (SqL K H p ys ∨ SqT K H p ys) ∧ Q (.int ys.length) H
theorem call_lenS {X : Cx} : CallR X (.builtin "len") (rLenS X.K) := call_len_seq
def rListOf (K : PySem.W.Frag) : List V → Hp → VK → Prop := fun xs H Q => ∃ p ys, xs = [.ref p] ∧ (SqL K H p ys ∨ SqT K H p ys) ∧ ∀ l, H l = none → Q (.ref l) (upd H l (.lst ys))
theorem call_listOf {X : Cx} : CallR X (.type "list") (rListOf X.K) := call_list_of
def rTupleOf (K : PySem.W.Frag) : List V → Hp → VK → Prop := fun xs H Q => ∃ p ys, xs = [.ref p] ∧ ((SqL K H p ys ∧ ∀ l, H l = none → Q (.ref l) (upd H l (.tup ys))) ∨ (SqT K H p ys ∧ Q (.ref p) H))
theorem call_tupleOf {X : Cx} : CallR X (.type "tuple") (rTupleOf X.K) := call_tuple_of
end Ft
namespace Ft
open PySem PySem.Spec PyProof.Rows L2
theorem at_name {i : Nat} {v : V} {σ : L2.St} {H : Hp} {Q : L2.St → Hp → Prop} (h : Q (σ.set i (some v)) H) : gName i v σ H Q := h
theorem at_seq {a b : TS} {D : Ends} {σ : L2.St} {H : Hp} (h : a { D with nx := b D } σ H) : tSeq a b D σ H := h
end Ft
namespace Ft
open PySem PySem.Spec PyProof.Rows L2
/-! ### a word between two statements, and behind an expression -/
def tCut (t u : TS) : TS := fun D σ H => ∃ M : L2.St → Hp → Prop, t { D with nx := M } σ H ∧ ∀ σ' H', M σ' H' → u D σ' H'
theorem ps_cut {X : Cx} {st : Stmt} {rest : List Stmt} {t u : TS} (h1 : PS X st t) (h2 : PSs X rest u) : PSs X (st :: rest) (tCut t u) := by
  refine ⟨fun pins s σ H D I h => ?_⟩
  obtain ⟨M, hm, hu⟩ := h
  refine wpAny_execs_cons (thn (h1.run pins s σ H { D with nx := M } I hm) ?_)
  intro f s1 q
  match f, q with
  | .next, q =>
    obtain ⟨σ', H', I', q⟩ := q
    exact h2.run pins s1 σ' H' D I' (hu σ' H' q)
  | .ret v, q => exact q
  | .brk, q => exact q
  | .cont, q => exact q
def tMid (te : TE) : TE := fun σ H Q => ∃ M : V → Hp → Prop, te σ H M ∧ ∀ v H', M v H' → Q v H'
theorem pe_mid {X : Cx} {e : Expr} {te : TE} (h : PE X e te) : PE X e (tMid te) := by
  refine ⟨fun pins s σ H Q I ⟨M, hm, hu⟩ => ?_⟩
  exact thn (h.run pins s σ H M I hm) fun u s1 ⟨v, H1, I1, r, m⟩ => ⟨v, H1, I1, r, hu v H1 m⟩
def tMidT (tt : TT) : TT := fun σ H Q => ∃ M : Bool → Hp → Prop, tt σ H M ∧ ∀ b H', M b H' → Q b H'
theorem pt_mid {X : Cx} {e : Expr} {tt : TT} (h : PT X e tt) : PT X e (tMidT tt) := by
  refine ⟨fun pins s σ H Q I ⟨M, hm, hu⟩ => ?_⟩
  exact thn (h.run pins s σ H M I hm) fun b s1 ⟨H1, I1, m⟩ => ⟨H1, I1, hu b H1 m⟩
theorem ite_any {c : Bool} {A B : Prop} (a : c = true → A) (b : c = false → B) : if c = true then A else B := by
  cases c with
  | true => exact iteT (a rfl)
  | false => exact iteF (b rfl)
end Ft

set_option Elab.async false
set_option linter.all false
set_option maxRecDepth 100000
set_option maxHeartbeats 4000000
namespace Ft
open PySem PySem.Spec PyProof.Rows L2
/-! ### the heap: what stays, and maps as they lie in it -/
def vN (n : Nat) : V := .int (n : Int)
def iN (l : List Nat) : List Int := l.map fun (n : Nat) => (n : Int)
theorem vN_map (l : List Nat) : l.map vN = (iN l).map V.int := by
  unfold iN
  rw [List.map_map]
  rfl
theorem iN_length (l : List Nat) : (iN l).length = l.length := List.length_map ..
theorem iN_mem {l : List Nat} {n : Nat} : (n : Int) ∈ iN l ↔ n ∈ l := by
  unfold iN
  constructor
  · intro h
    obtain ⟨m, hm, e⟩ := List.mem_map.mp h
    have : m = n := by omega
    exact this ▸ hm
  · intro h
    exact List.mem_map.mpr ⟨n, h, rfl⟩
/-- all but the objects in ex stay as they are -/
def Kp (ex : List Addr) (H H' : Hp) : Prop := ∀ b o, b ∉ ex → H b = some o → H' b = some o
theorem Kp.refl (ex : List Addr) (H : Hp) : Kp ex H H := fun _ _ _ h => h
theorem Kp.trans {ex : List Addr} {H H1 H2 : Hp} (a : Kp ex H H1) (b : Kp ex H1 H2) : Kp ex H H2 := fun c o n h => b c o n (a c o n h)
theorem Kp.of_same {ex : List Addr} {H H1 : Hp} (a : Same H H1) : Kp ex H H1 := fun c o _ h => a c o h
theorem Same.kp {ex : List Addr} {H H1 : Hp} (a : Same H H1) : Kp ex H H1 := fun c o _ h => a c o h
theorem same_upd {H : Hp} {p : Addr} {o : HO} (n : H p = none) : Same H (upd H p o) := fun b u e => by
  rw [upd_ne (ne_of_none e n)]
  exact e
theorem same_free {H H' : Hp} (a : Same H H') {p : Addr} (n : H' p = none) : H p = none := a.free n
theorem kp_free {ex : List Addr} {H H' : Hp} (a : Kp ex H H') {p : Addr} (hp : p ∉ ex) (n : H' p = none) : H p = none := by
  cases q : H p with
  | none => rfl
  | some o =>
    rw [a p o hp q] at n
    cases n
/-- a tuple stays where only lists and dicts change -/
def Lists (ex : List Addr) (H : Hp) : Prop := ∀ b ∈ ex, ∃ o, H b = some o ∧ (∀ xs, o ≠ .tup xs) ∧ ∀ q xs, o ≠ .frz q (.tup xs)
theorem Kp.sqT {K : PySem.W.Frag} {ex : List Addr} {H H' : Hp} (k : Kp ex H H') (l : Lists ex H) {a : Addr} {xs : List V} (h : SqT K H a xs) : SqT K H' a xs := by
  have off : ∀ o, H a = some o → ((∃ ys, o = .tup ys) ∨ ∃ q ys, o = .frz q (.tup ys)) → a ∉ ex := by
    intro o e t m
    obtain ⟨u, e1, n1, n2⟩ := l a m
    have : o = u := Option.some.inj (e.symm.trans e1)
    subst this
    rcases t with ⟨ys, t⟩ | ⟨q, ys, t⟩
    · exact n1 ys t
    · exact n2 q ys t
  rcases h with (h | ⟨o, h⟩) | h
  · exact .inl (.inl (k _ _ (off _ h (.inl ⟨_, rfl⟩)) h))
  · exact .inl (.inr ⟨o, k _ _ (off _ h (.inr ⟨_, _, rfl⟩)) h⟩)
  · exact .inr h
theorem Kp.sqL {K : PySem.W.Frag} {ex : List Addr} {H H' : Hp} (k : Kp ex H H') {a : Addr} {xs : List V} (n : a ∉ ex) (h : SqL K H a xs) : SqL K H' a xs := by
  rcases h with (h | ⟨o, h⟩) | h
  · exact .inl (.inl (k _ _ n h))
  · exact .inl (.inr ⟨o, k _ _ n h⟩)
  · exact .inr h
theorem lists_nil (H : Hp) : Lists [] H := fun _ h => nomatch h
theorem Same.sqT {K : PySem.W.Frag} {H H' : Hp} (k : Same H H') {a : Addr} {xs : List V} (h : SqT K H a xs) : SqT K H' a xs := (Same.kp (ex := []) k).sqT (lists_nil H) h

/-- a map -/
structure Chart where
  n : Nat
  roads : List (Nat × Nat)
  wished : List Nat
/-- a row of pairs at the addresses ts -/
def PairsAt (K : PySem.W.Frag) (H : Hp) (ts : List Addr) (ps : List (Nat × Nat)) : Prop := Paired (fun (t : Addr) (p : Nat × Nat) => SqT K H t [vN p.1, vN p.2]) ts ps
structure ChartAt (K : PySem.W.Frag) (H : Hp) (c : Addr) (C : Chart) (r w : Addr) (ts : List Addr) : Prop where
  top : SqT K H c [vN C.n, .ref r, .ref w]
  row : SqT K H r (ts.map V.ref)
  prs : PairsAt K H ts C.roads
  wis : SqT K H w (C.wished.map vN)
def IsChart (K : PySem.W.Frag) (H : Hp) (c : Addr) (C : Chart) : Prop := ∃ r w ts, ChartAt K H c C r w ts
theorem paired_imp {α β : Type} {R S : α → β → Prop} (h : ∀ a b, R a b → S a b) : ∀ {as : List α} {bs : List β}, Paired R as bs → Paired S as bs
  | _, _, .nil => .nil
  | _, _, .cons r t => .cons (h _ _ r) (paired_imp h t)
theorem PairsAt.keep {K : PySem.W.Frag} {ex : List Addr} {H H' : Hp} (k : Kp ex H H') (l : Lists ex H) {ts : List Addr} {ps : List (Nat × Nat)} (h : PairsAt K H ts ps) : PairsAt K H' ts ps :=
  paired_imp (fun _ _ q => k.sqT l q) h
theorem ChartAt.keep {K : PySem.W.Frag} {ex : List Addr} {H H' : Hp} (k : Kp ex H H') (l : Lists ex H) {c r w : Addr} {C : Chart} {ts : List Addr} (h : ChartAt K H c C r w ts) : ChartAt K H' c C r w ts :=
  ⟨k.sqT l h.top, k.sqT l h.row, h.prs.keep k l, k.sqT l h.wis⟩
theorem IsChart.keep {K : PySem.W.Frag} {ex : List Addr} {H H' : Hp} (k : Kp ex H H') (l : Lists ex H) {c : Addr} {C : Chart} (h : IsChart K H c C) : IsChart K H' c C := let ⟨r, w, ts, q⟩ := h; ⟨r, w, ts, q.keep k l⟩
theorem IsChart.same {K : PySem.W.Frag} {H H' : Hp} (k : Same H H') {c : Addr} {C : Chart} (h : IsChart K H c C) : IsChart K H' c C := h.keep (Same.kp (ex := []) k) (lists_nil H)
theorem ChartAt.same {K : PySem.W.Frag} {H H' : Hp} (k : Same H H') {c r w : Addr} {C : Chart} {ts : List Addr} (h : ChartAt K H c C r w ts) : ChartAt K H' c C r w ts := h.keep (Same.kp (ex := []) k) (lists_nil H)
theorem paired_get {α β : Type} {R : α → β → Prop} : ∀ {as : List α} {bs : List β} {i : Nat} {b : β}, Paired R as bs → bs[i]? = some b → ∃ a, as[i]? = some a ∧ R a b
  | _, _, _, _, .nil, e => by simp at e
  | _, _, 0, _, .cons r _, e => by
    simp at e
    subst e
    exact ⟨_, rfl, r⟩
  | _, _, i + 1, b, .cons _ t, e => by
    obtain ⟨a, h1, h2⟩ := paired_get (i := i) t (by simpa using e)
    exact ⟨a, by simpa using h1, h2⟩
theorem paired_getL {α β : Type} {R : α → β → Prop} : ∀ {as : List α} {bs : List β} {i : Nat} {a : α}, Paired R as bs → as[i]? = some a → ∃ b, bs[i]? = some b ∧ R a b
  | _, _, _, _, .nil, e => by simp at e
  | _, _, 0, _, .cons r _, e => by
    simp at e
    subst e
    exact ⟨_, rfl, r⟩
  | _, _, i + 1, b, .cons _ t, e => by
    obtain ⟨a, h1, h2⟩ := paired_getL (i := i) t (by simpa using e)
    exact ⟨a, by simpa using h1, h2⟩
/-- the order of pairs -/
def ltP (p q : Nat × Nat) : Prop := p.1 < q.1 ∨ (p.1 = q.1 ∧ p.2 < q.2)
structure Chart.Ok (C : Chart) : Prop where
  n60 : C.n ≤ 60
  many : C.roads.length ≤ 240
  inR : ∀ p ∈ C.roads, p.1 < C.n ∧ p.2 < C.n
  upR : C.roads.Pairwise ltP
  inW : ∀ a ∈ C.wished, a < C.n
  upW : C.wished.Pairwise (· < ·)
/-- the builtins' names that the top has left alone, and its own two numbers -/
structure Txt (mg : Str → Option Value) : Prop where
  isinstance : mg "isinstance" = none
  len : mg "len" = none
  tuple : mg "tuple" = none
  int : mg "int" = none
  bool : mg "bool" = none
  enumerate : mg "enumerate" = none
  range : mg "range" = none
  set : mg "set" = none
  list : mg "list" = none
  sorted : mg "sorted" = none
  min : mg "min" = none
  max : mg "max" = none
  repr : mg "repr" = none
  dict : mg "dict" = none
  str : mg "str" = none
  any : mg "any" = none
  all : mg "all" = none
  sum : mg "sum" = none
  zip : mg "zip" = none
end Ft

set_option Elab.async false
set_option linter.all false
set_option maxRecDepth 100000
set_option maxHeartbeats 4000000
/-! Errors of own classes that share one __init__(self, what): raised, let through by a def, caught. -/
namespace Ft
open PySem PySem.Spec PyProof.Rows L2
/-- the class x of the text, at C; fI: the __init__ that it has -/
structure ErrC (K : PySem.W.Frag) (mg : Str → Option Value) (x : Str) (C fI : Addr) : Prop where
  g : mg x = some (.ref C)
  oex : OexC K C
  iC : PySem.W.findIn K (.ref C) "__init__" = some (some (.ref fI))
  tI : PySem.W.typeIn K (.ref fI) = some (.type "function")
  noW : PySem.W.findIn K (.ref C) "what" = some none
  xf : XfC K C
/-- __init__(self, what) -/
def spInit (K : PySem.W.Frag) : Sp := fun vs H Q _ => ∃ (a C : Addr) (v : V), vs = [.ref a, v] ∧ OexC K C ∧ PySem.W.findIn K (.ref C) "what" = some none ∧ H a = some (exo a C none) ∧
  ∀ dx, H dx = none → dx ≠ a → Q .non (upd (upd H dx (exd dx [("what", v)])) a (exo a C (some dx)))
/-- an error that may be raised -/
structure Er (P : Program) (w : World) (K : PySem.W.Frag) (mg : Str → Option Value) (base : Heap) (ca : Str → Addr) (x : Str) : Prop where
  ex : ∃ (fI : Addr) (fd : FuncData), ErrC K mg x (ca x) fI ∧ FnOk P w K mg base L2.CX0 1 fI fd ["self", "what"] (spInit K) ∧ Binds K fd ["self", "what"] []
theorem Er.c {P : Program} {w : World} {K : PySem.W.Frag} {mg : Str → Option Value} {base : Heap} {ca : Str → Addr} {x : Str} (e : Er P w K mg base ca x) : ∃ fI, ErrC K mg x (ca x) fI := let ⟨fI, _, h, _⟩ := e.ex; ⟨fI, h⟩
theorem upd_del {H : Hp} {a d : Addr} {o : HO} {u v : HO} {w : HO} (na : H a = none) (hd : d ≠ a) : upd (del (upd (upd (upd H a o) d u) a v) a) d w = upd H d w := by
  funext b
  by_cases h1 : b = d
  · rw [h1, upd_same, upd_same]
  · rw [upd_ne h1, upd_ne h1]
    by_cases h2 : b = a
    · rw [h2, del_same, na]
    · rw [del_ne h2, upd_ne h2, upd_ne h1, upd_ne h2]
theorem passF {X : Cx} {E : XK} : Passes L2.CX0 X E := fun _ _ _ _ _ _ _ h => h.elim
def tMidA (ta : TA) : TA := fun σ H Q => ∃ M : List V → Hp → Prop, ta σ H M ∧ ∀ vs H', M vs H' → Q vs H'
theorem pa_mid {X : Cx} {es : List Expr} {ta : TA} (h : PA X es ta) : PA X es (tMidA ta) := by
  refine ⟨fun pos pins s σ H Q I ⟨M, hm, hu⟩ => ?_⟩
  exact thn (h.run pos pins s σ H M I hm) fun us s1 ⟨vs, H1, I1, r, m⟩ => ⟨vs, H1, I1, r, hu vs H1 m⟩
/-- raise x(e) -/
def tRaise (C : Addr) (W : WX) (ta : TA) : TS := fun _ σ H => ta σ H fun vs H1 => ∃ v, vs = [v] ∧ ∀ d, H1 d = none → W (.ref C) (some d) σ (upd H1 d (.xd [("what", v)]))
section
variable {X : Cx} {ca : Str → Addr} {x : Str} {W : WX} {e : Expr} {es : List Expr} {ta : TA} {p pos pos2 : Pos} {k : Nat}
theorem ps_raiseE (hc : X.calm = true) (er : Er X.prog X.w X.K X.mg X.base ca x) (hr : Room k X.A) (hk : 2 ≤ k) (tk : Takes X W) (hg : Gl X x) (ha : PA X (e :: es) ta)
    (hdb : (x == ("__debug__" : Str)) = false := by decide) (he : starEach (e :: es) X.env = (false, eval e X.env) :: starEach es X.env := by rfl) (hpl : (backTo pos (starEach es X.env)).any (·.1) = false := by rfl) :
    PS X (.Raise (some (.Call (.Name x p) (e :: es) [] pos)) none pos2) (tRaise (ca x) W ta) := by
  obtain ⟨fI, fd, c, F, b⟩ := er.ex
  refine ⟨fun pins s σ H D I h => ?_⟩
  refine (ps_raise (pos := pos2) hc tk (pmk_oex (pos := pos) (p := p) c.oex c.iC c.tI F (hr.mono hk) b .nil passF hg c.g (pa_mid ha) hdb he hpl)).run pins s σ H D I ?_
  have imp : ∀ vs H1, (∃ v, vs = [v] ∧ ∀ d, H1 d = none → W (.ref (ca x)) (some d) σ (upd H1 d (.xd [("what", v)]))) →
      vs.length ≤ 1000 ∧ ∀ a, H1 a = none → spInit X.K (.ref a :: (vs ++ [])) (upd H1 a (exo a (ca x) none)) (fun v H2 => v = .non ∧ ∃ (d : Addr) (fs : List (Str × V)), H2 a = some (exo a (ca x) (some d)) ∧ H2 d = some (exd d fs) ∧ H1 d = none ∧ W (.ref (ca x)) (some d) σ (upd (del H2 a) d (.xd fs))) (fun _ _ _ => False) := by
    rintro vs H1 ⟨v, rfl, q⟩
    refine ⟨by simp, fun a na => ⟨a, ca x, v, rfl, c.oex, c.noW, upd_same, fun dx ndx hda => ⟨rfl, dx, [("what", v)], upd_same, ?_, ?_, ?_⟩⟩⟩
    · rw [upd_ne hda, upd_same]
    · rwa [upd_ne hda] at ndx
    · rw [upd_del na hda]
      rw [upd_ne hda] at ndx
      exact q dx ndx
  exact ⟨_, h, imp⟩
end
/-! ### defs that may raise -/
structure CalX (P : Program) (w : World) (K : PySem.W.Frag) (mg : Str → Option Value) (base : Heap) (k : Nat) (x : Str) (sp : Sp) : Prop where
  ex : ∃ (f : Addr) (fd : FuncData) (ps : List Str), FnOk P w K mg base (L2.CX P w) k f fd ps sp ∧ mg x = some (.ref f) ∧ PySem.W.keepIn K (.ref f) = true ∧ Binds K fd ps []
theorem pe_x {X : Cx} {k j : Nat} {x : Str} {sp : Sp} {W : WX} {p pos : Pos} {e : Expr} {es : List Expr} {t : TA} (tk : Takes X W) (c : CalX X.prog X.w X.K X.mg X.base k x sp) (hr : Room j X.A) (hk : k ≤ j) (hg : Gl X x) (ha : PA X (e :: es) t)
    (hdb : (x == ("__debug__" : Str)) = false := by decide) (he : starEach (e :: es) X.env = (false, eval e X.env) :: starEach es X.env := by rfl) (hpl : (backTo pos (starEach es X.env)).any (·.1) = false := by rfl) :
    PE X (.Call (.Name x p) (e :: es) [] pos) (tCallS sp (WE W) t) := by
  obtain ⟨f, fd, ps, F, hm, kp, b⟩ := c.ex
  exact pe_callS F (hr.mono hk) hg hm kp b (fun σ => passAt tk σ) ha hdb he hpl
theorem calx_of {P : Program} {w : World} {K : PySem.W.Frag} {mg : Str → Option Value} {base : Heap} {x : Str} {st : Stmt} {N ps : List Str} {k : Nat} {sp : Sp} (D : Def K mg x st) (S : FnScope N ps (L2.defScope st))
    (bd : ∀ (kV doc pm : Value) (an : Option Addr) (cdv ct : Value) (us : List Value), us.length = ps.length → bindArgs (PySem.W.fnOf x x (L2.defArgs st) (L2.defBody st) (L2.defScope st) .none kV doc pm an cdv ct) ⟨us, []⟩ = pure (ps.zip us))
    (len : ∀ vs H Q E, sp vs H Q E → vs.length = ps.length)
    (body : ∀ (f : Addr) (cdv : Value) (A : Around) (outer : List Env) (s : Shared) (H : Hp) (vs : List V) (Q : VK) (E : XK), Room k (A.deeper (envOfC x (L2.defScope st) s.heap.objs.size f cdv)) → sp vs H Q E →
      ∃ t, PSs (cxOf (L2.CX P w) P w K mg base N x (L2.defScope st) f cdv A outer s H E) (L2.defBody st) t ∧ t { nx := fun _ H' => Q .non H', rt := Q } (start N vs) H) : CalX P w K mg base (k + 1) x sp := by
  obtain ⟨f, fd, F, hm⟩ := D.ex
  exact ⟨f, fd, ps, F.okX S len (body f), hm, F.kp, F.binds bd⟩
/-- .. where nothing is raised -/
theorem fnOk_valid {P : Program} {w : World} {K : PySem.W.Frag} {mg : Str → Option Value} {base : Heap} {k : Nat} {f : Addr} {fd : FuncData} {ps : List Str} {sp sp' : Sp} (F : FnOk P w K mg base (L2.CX P w) k f fd ps sp)
    (h : ∀ vs H Q E, sp' vs H Q E → sp vs H Q L2.E0) : FnOk P w K mg base L2.CX0 k f fd ps sp' :=
  ⟨fun vs H Q E q => F.len vs H Q _ (h _ _ _ _ q), fun A outer s H args us vs Q E hr he hb hv hs => codeAny_mono (F.run A outer s H args us vs Q L2.E0 hr he hb hv (h _ _ _ _ hs)) fun r s' hq => by
    cases r with
    | error e =>
      obtain ⟨_, _, _, _, _, _, _, _, _, _, _, _, z⟩ := hq
      exact z.elim
    | ok fl => cases fl <;> exact hq⟩
theorem CalX.valid {P : Program} {w : World} {K : PySem.W.Frag} {mg : Str → Option Value} {base : Heap} {k : Nat} {x : Str} {sp sp' : Sp} (c : CalX P w K mg base k x sp) (h : ∀ vs H Q E, sp' vs H Q E → sp vs H Q L2.E0) : Cal P w K mg base k x sp' := by
  obtain ⟨f, fd, ps, F, hm, kp, b⟩ := c.ex
  exact ⟨f, fd, ps, fnOk_valid F h, hm, kp, b⟩
theorem Cal.imp {P : Program} {w : World} {K : PySem.W.Frag} {mg : Str → Option Value} {base : Heap} {k : Nat} {x : Str} {sp sp' : Sp} (c : Cal P w K mg base k x sp) (h : ∀ vs H Q E, sp' vs H Q E → sp vs H Q E) : Cal P w K mg base k x sp' := by
  obtain ⟨f, fd, ps, F, hm, kp, b⟩ := c.ex
  exact ⟨f, fd, ps, F.imp h, hm, kp, b⟩
/-- what is wanted of an error e, of all that may leave -/
def Raised (K : PySem.W.Frag) (ca : Str → Addr) (H : Hp) (E : XK) (e : Str × PyData) : Prop := ∀ (d : Addr) (H' : Hp) (v : V), Same H H' → H' d = some (.xd [("what", v)]) → Dp K H' v e.2 → E (.ref (ca e.1)) (some d) H'
theorem Raised.same {K : PySem.W.Frag} {ca : Str → Addr} {H H1 : Hp} {E : XK} {e : Str × PyData} (r : Raised K ca H E e) (s : Same H H1) : Raised K ca H1 E e := fun d H' v s' hd hv => r d H' v (s.trans s') hd hv
end Ft

set_option Elab.async false
set_option linter.all false
set_option maxRecDepth 100000
set_option maxHeartbeats 4000000
/-! Several except clauses, each with a name or without. -/
namespace Ft
open PySem PySem.Spec PyProof.Rows L2
abbrev Hd := Value × Option Nat × (Addr → Value → Option Addr → TS)
def gone (i : Nat) (D : Ends) : Ends := { nx := fun σ' H' => D.nx (σ'.set i none) H', rt := D.rt, bk := fun σ' H' => D.bk (σ'.set i none) H', ct := fun σ' H' => D.ct (σ'.set i none) H' }
def wHd (o : Option Nat) (ts : Addr → Value → Option Addr → TS) (a : Addr) (cls : Value) (d : Option Addr) (D : Ends) (σ : L2.St) (H : Hp) : Prop := match o with
  | none => ts a cls d D σ H
  | some i => ts a cls d (gone i D) (σ.set i (some (.ref a))) H
/-- what the clauses wish of an exception of the body -/
def wMs (K : PySem.W.Frag) (n : Nat) (Wout : WX) (D : Ends) : List Hd → WX
  | [] => Wout
  | (c, o, ts) :: r => fun cls d σ H => ∃ b, PySem.W.exmOne K cls c = some b ∧ (b = true → ∀ a, H a = none → σ.length = n → wHd o ts a cls d D σ H) ∧ (b = false → wMs K n Wout D r cls d σ H)
inductive HdsA (X : Cx) : List ExceptHandler → List Hd → Prop
  | nil : HdsA X [] []
  | no {x : Str} {c : Value} {ts : Addr → Value → Option Addr → TS} {b₀ : Stmt} {suite : List Stmt} {np pos' : Pos} {hds : List ExceptHandler} {l : List Hd} (hc : Names X x c)
      (hsu : ∀ (a : Addr) (oe : Obj) (cls : Value) (d : Option Addr) (pn : List (Addr × Obj)), Zc cls d oe → (∃ vs, oe.data = .fields vs) → PSs (X.suite a ((a, oe) :: pn)) (b₀ :: suite) (ts a cls d)) (r : HdsA X hds l) :
      HdsA X (.ExceptHandler (some (.Name x np)) none (b₀ :: suite) pos' :: hds) ((c, none, ts) :: l)
  | as {x n : Str} {c : Value} {i : Nat} {ts : Addr → Value → Option Addr → TS} {b₀ : Stmt} {suite : List Stmt} {np pos' : Pos} {hds : List ExceptHandler} {l : List Hd} (hi : X.N[i]? = some n) (hln : X.env.kindOf n = some .local) (hc : Names X x c)
      (hsu : ∀ (a : Addr) (oe : Obj) (cls : Value) (d : Option Addr) (pn : List (Addr × Obj)), Zc cls d oe → (∃ vs, oe.data = .fields vs) → PSs (X.suite a ((a, oe) :: pn)) (b₀ :: suite) (ts a cls d)) (r : HdsA X hds l) :
      HdsA X (.ExceptHandler (some (.Name x np)) (some n) (b₀ :: suite) pos' :: hds) ((c, some i, ts) :: l)
section
variable {X : Cx} {body : List Stmt} {h₀ : ExceptHandler} {hds : List ExceptHandler} {l : List Hd} {pos : Pos} {tb : WX → TS} {Wout : WX}
theorem ps_try_ms (hs : X.stack = X.env :: X.outer) (hf : X.env.frame = some X.env.locals) (hN : X.N.Nodup) (tk : Takes X Wout)
    (hb : ∀ (W : WX) (pn : List (Addr × Obj)) (xe : Value → Shared → Prop), Takes (X.tr pn xe) W → PassesOwn (model X.prog X.w) X.A X.env xe → PSs (X.tr pn xe) body (tb W))
    (hh : HdsA X (h₀ :: hds) l) : PS X (.Try body (h₀ :: hds) [] [] pos) (fun D σ H => tb (wMs X.K X.N.length Wout D l) D σ H) := by
  refine ⟨fun pins s σ H D I h => ?_⟩
  have ok := I.ok
  have hfr : X.A.frames = some (X.env :: X.outer) := by rw [ok.frames, hs]
  refine wpAny_Try_except ?_
  refine wpAny_mono ((hb (wMs X.K X.N.length Wout D l) (X.pn ++ pins) (fun e s₁ => wpAny (model X.prog X.w) X.A (noteFrame e X.env) (fun _ s₂ => wpAny (model X.prog X.w) X.A (setFlight e none) (fun _ s₃ =>
    wpAny (model X.prog X.w) X.A (handleBy e X.env (h₀ :: hds)) (SP X pins D) X.xe s₃) X.xe s₂) X.xe s₁) (fun u s' xx => ?_) PassesOwn.looking).run [] s σ H D (I.toTry _) h) (fun f s1 hsp => ?_) (fun e s1 he => he)
  · -- the catch
    obtain ⟨a, B, sI, pins', σ', H', cls, d, rfl, J', nb, up, sky, na, os, ag, w⟩ := xx
    have J : Inv X pins σ' H' sI := J'.ofTry ok
    have sky' : Sky B (X.env :: X.outer) a (Zc cls d) X.env.locals s'.heap := by rw [← hs]; exact sky
    show wpAny (model X.prog X.w) X.A (noteFrame (.ref a) X.env) _ _ _
    refine Sky.land Zc.steady hfr hf sky' fun h3 fl3 up3 => ?_
    have J3 : Inv X pins σ' H' { s' with heap := h3 } := J.landed nb fl3.1 (up.trans up3) os ag
    obtain ⟨oe3, vs3, he3, hz3, hd3⟩ := fl3.there
    have notFr : ∀ {h : Heap} {o : Obj} {vs : Array Value}, h.FunFrames B (X.env :: X.outer) → h.get? a = some o → o.data = .fields vs → a ∉ frs (X.env :: X.outer) := fun {h o vs} ff e dd hm => by
      obtain ⟨_, o', e', hnf⟩ := ff.mem hm
      rw [e] at e'; cases e'
      exact hnf _ dd
    have nfr := notFr fl3.2.2.1 he3 hd3
    have nL : a ≠ X.env.locals := fun z => nfr (List.mem_filterMap.mpr ⟨X.env, List.mem_cons_self, by rw [hf, z]⟩)
    have nF : a ∉ X.fs := fun hm => by
      obtain ⟨e, he, q⟩ := List.mem_filterMap.mp hm
      exact nfr (List.mem_filterMap.mpr ⟨e, List.mem_cons_of_mem _ he, q⟩)
    have S3 := J3.suite he3 hd3 na nL nF
    have LT : PySem.W.Looks (model X.prog X.w) h3 (typeOf (.ref a)) cls := fun A Q E s k q => wpAny_typeOf_ref (k _ _ he3) (by rw [hz3.1]; exact q)
    have test : ∀ {x : Str} {c : Value} {np : Pos} (hc : Names X x c) {Q : Value → Shared → Prop} {E : Value → Shared → Prop}, Q c { s' with heap := h3 } → wpAny (model X.prog X.w) (X.A.mark (some (.ref a))) (eval (.Name x np) X.env) Q E { s' with heap := h3 } := fun {x c np} hc {Q E} q => by
      obtain ⟨hg, hdbg, hm | ⟨hm, hv, hnn⟩⟩ := hc
      · exact ld_glob (X := X.suite a ((a, oe3) :: (X.pn ++ pins))) S3 hg hm q hdbg
      · exact ld_blt (X := X.suite a ((a, oe3) :: (X.pn ++ pins))) S3 hg hm hv q hnn hdbg
    have go : ∀ {hds' : List ExceptHandler} {l' : List Hd}, HdsA X hds' l' → wMs X.K X.N.length Wout D l' cls d σ' H' →
        wpAny (model X.prog X.w) X.A (handleBy (.ref a) X.env hds') (SP X pins D) X.xe { s' with heap := h3 } := by
      intro hds' l' hk
      induction hk with
      | nil =>
        intro w
        refine wpAny_handleBy_nil ?_
        obtain ⟨k1, k2, k3, oe, vs, T, oT, ts', he, hz, hd, h1, hr⟩ := id fl3
        unfold PySem.passOn
        refine wpAny_bind (wpAny_field he hd h1 ?_)
        rw [if_neg (show ¬ ((Value.ref T == Value.none) = true) from by simp)]
        have fin : wpAny (model X.prog X.w) X.A (setFlight (.ref a) X.env.frame) (fun _ s4 => wpAny (model X.prog X.w) X.A (throw (.ref a) : Sem Flow) (SP X pins D) X.xe s4) X.xe { s' with heap := h3 } := by
          rw [hf]
          refine HandSPX.setFlight_upZ fl3 fun h4 hh4 up4 => wpAny_throw (tk _ _ ?_)
          exact ⟨a, B, sI, pins, σ', H', cls, d, rfl, J, nb, (up.trans up3).trans up4, .inr (.inr (by rw [hs]; exact hh4)), na, os, ag, w⟩
        first
          | exact wpAny_bind (wpAny_pure (wpAny_bind fin))
          | exact wpAny_bind fin
      | @no x c ts b₀ suite np pos' hds2 l2 hc hsu r ih =>
        intro w
        obtain ⟨b, hb1, hyes, hno⟩ := w
        have LM := PySem.W.exm_one (M := model X.prog X.w) (J3.kIn) LT hb1
        refine wpAny_handleBy_cons (codeAny_handlers_test ?_) (by intro q; cases q)
        refine test hc (LM.here ?_)
        cases b with
        | true =>
          refine codeAny_handlers_suite ?_
          refine HandSPX.lands_againZ fl3 fun h4 fl4 up4 => ?_
          have J4 : Inv X pins σ' H' { s' with heap := h4 } := J.landed nb fl4.1 ((up.trans up3).trans up4) os ag
          obtain ⟨oe4, vs4, he4, hz4, hd4⟩ := fl4.there
          have S4 := J4.suite he4 hd4 na nL nF
          refine wpAny_mono ((hsu a oe4 cls d (X.pn ++ pins) hz4 ⟨_, hd4⟩).run [] _ _ H' _ S4 (hyes rfl a na J.len)) (fun f s6 hsp => ?_) (fun _ _ z => False.elim z)
          cases f with
          | next =>
            obtain ⟨σ6, H6, S6, q6⟩ := hsp
            exact ⟨_, _, S6.unsuite ok, q6⟩
          | brk =>
            obtain ⟨σ6, H6, S6, q6⟩ := hsp
            exact ⟨_, _, S6.unsuite ok, q6⟩
          | cont =>
            obtain ⟨σ6, H6, S6, q6⟩ := hsp
            exact ⟨_, _, S6.unsuite ok, q6⟩
          | ret u =>
            obtain ⟨v6, σ6, H6, S6, r6, q6⟩ := hsp
            exact ⟨_, _, _, S6.unsuite ok, r6, q6⟩
        | false =>
          show wpAny _ X.A (handleBy (.ref a) X.env hds2) _ _ _
          exact ih (hno rfl)
      | @as x n c i ts b₀ suite np pos' hds2 l2 hi hln hc hsu r ih =>
        intro w
        obtain ⟨b, hb1, hyes, hno⟩ := w
        have LM := PySem.W.exm_one (M := model X.prog X.w) (J3.kIn) LT hb1
        refine wpAny_handleBy_cons (codeAny_handlers_test ?_) (by intro q; cases q)
        refine test hc (LM.here ?_)
        cases b with
        | true =>
          refine codeAny_handlers_suite_as ?_
          refine HandSPX.lands_againZ fl3 fun h4 fl4 up4 => ?_
          have J4 : Inv X pins σ' H' { s' with heap := h4 } := J.landed nb fl4.1 ((up.trans up3).trans up4) os ag
          obtain ⟨oe4, vs4, he4, hz4, hd4⟩ := fl4.there
          have S4 := J4.suite he4 hd4 na nL nF
          refine store_ok (X := X.suite a ((a, oe4) :: (X.pn ++ pins))) (v := .ref a) S4 hN hi (.inl hln) rfl (fun s5 S5 => ?_) (.inr hln)
          refine wpAny_mono ((hsu a oe4 cls d (X.pn ++ pins) hz4 ⟨_, hd4⟩).run [] s5 _ H' _ S5 (hyes rfl a na J.len)) (fun f s6 hsp => ?_) (fun _ _ z => False.elim z)
          have end_ : ∀ {σ6 : L2.St} {H6 : Hp} {Q : Shared → Prop}, Inv (X.suite a ((a, oe4) :: (X.pn ++ pins))) [] σ6 H6 s6 → (∀ s7, Inv X pins (σ6.set i none) H6 s7 → Q s7) →
              wpAny (model X.prog X.w) X.A (do bindName X.env n .none; unbindBehindTheSuite X.env n pos') (fun _ s7 => Q s7) X.xe s6 := fun {σ6 H6 Q} S6 hq => gone_ok (S6.unsuite ok) hN hi hln hq
          cases f with
          | next =>
            obtain ⟨σ6, H6, S6, q6⟩ := hsp
            exact end_ S6 fun s7 J7 => ⟨_, _, J7, q6⟩
          | brk =>
            obtain ⟨σ6, H6, S6, q6⟩ := hsp
            exact end_ S6 fun s7 J7 => ⟨_, _, J7, q6⟩
          | cont =>
            obtain ⟨σ6, H6, S6, q6⟩ := hsp
            exact end_ S6 fun s7 J7 => ⟨_, _, J7, q6⟩
          | ret u =>
            obtain ⟨v6, σ6, H6, S6, r6, q6⟩ := hsp
            exact end_ S6 fun s7 J7 => ⟨_, _, _, J7, r6, q6⟩
        | false =>
          show wpAny _ X.A (handleBy (.ref a) X.env hds2) _ _ _
          exact ih (hno rfl)
    exact go hh w
  · cases f with
    | next =>
      obtain ⟨σ', H', J', q⟩ := hsp
      exact wpAny_execs_nil ⟨σ', H', J'.ofTry ok, q⟩
    | brk =>
      obtain ⟨σ', H', J', q⟩ := hsp
      exact ⟨σ', H', J'.ofTry ok, q⟩
    | cont =>
      obtain ⟨σ', H', J', q⟩ := hsp
      exact ⟨σ', H', J'.ofTry ok, q⟩
    | ret u =>
      obtain ⟨v, σ', H', J', r, q⟩ := hsp
      exact ⟨v, σ', H', J'.ofTry ok, r, q⟩
end
end Ft

set_option Elab.async false
set_option linter.all false
set_option maxRecDepth 100000
set_option maxHeartbeats 4000000
/-! Data as it lies in the heap, and what the program's judges say of it. -/
namespace Ft
open PySem PySem.Spec PyProof.Rows L2
/-! ### data stay -/
theorem Same.sqL {K : PySem.W.Frag} {H H' : Hp} (k : Same H H') {a : Addr} {xs : List V} (h : SqL K H a xs) : SqL K H' a xs := (Same.kp (ex := []) k).sqL (by simp) h
mutual
theorem dp_same {K : PySem.W.Frag} {H H' : Hp} (s : Same H H') : ∀ (d : PyData) (v : V), Dp K H v d → Dp K H' v d
  | .none, _, h => by cases h; exact .non
  | .bool _, _, h => by cases h; exact .bl _
  | .int _, _, h => by cases h; exact .int _
  | .str _, _, h => by cases h; exact .str _
  | .list ds, _, h => by
    cases h with
    | lst h a => exact .lst (Same.sqL s h) (dp_sames s ds _ a)
  | .tuple ds, _, h => by
    cases h with
    | tup h a => exact .tup (Same.sqT s h) (dp_sames s ds _ a)
  | .dict _, _, h => by cases h
theorem dp_sames {K : PySem.W.Frag} {H H' : Hp} (s : Same H H') : ∀ (ds : List PyData) (vs : List V), DpAll K H vs ds → DpAll K H' vs ds
  | [], _, h => by cases h; exact .nil
  | d :: ds, _, h => by
    cases h with
    | cons h1 h2 => exact .cons (dp_same s d _ h1) (dp_sames s ds _ h2)
end
theorem Dp.same {K : PySem.W.Frag} {H H' : Hp} (s : Same H H') {d : PyData} {v : V} (h : Dp K H v d) : Dp K H' v d := dp_same s d v h
theorem DpAll.same {K : PySem.W.Frag} {H H' : Hp} (s : Same H H') {ds : List PyData} {vs : List V} (h : DpAll K H vs ds) : DpAll K H' vs ds := dp_sames s ds vs h
/-! no list in it -/
mutual
def noList : PyData → Bool
  | .list _ => false
  | .tuple ds => noLists ds
  | _ => true
def noLists : List PyData → Bool
  | [] => true
  | d :: ds => noList d && noLists ds
end
mutual
theorem dp_kp {K : PySem.W.Frag} {ex : List Addr} {H H' : Hp} (k : Kp ex H H') (l : Lists ex H) : ∀ (d : PyData) (v : V), noList d = true → Dp K H v d → Dp K H' v d
  | .none, _, _, h => by cases h; exact .non
  | .bool _, _, _, h => by cases h; exact .bl _
  | .int _, _, _, h => by cases h; exact .int _
  | .str _, _, _, h => by cases h; exact .str _
  | .list ds, _, n, h => by simp [noList] at n
  | .tuple ds, _, n, h => by
    cases h with
    | tup h a => exact .tup (k.sqT l h) (dp_kps k l ds _ (by simpa [noList] using n) a)
  | .dict _, _, _, h => by cases h
theorem dp_kps {K : PySem.W.Frag} {ex : List Addr} {H H' : Hp} (k : Kp ex H H') (l : Lists ex H) : ∀ (ds : List PyData) (vs : List V), noLists ds = true → DpAll K H vs ds → DpAll K H' vs ds
  | [], _, _, h => by cases h; exact .nil
  | d :: ds, _, n, h => by
    simp only [noLists, Bool.and_eq_true] at n
    cases h with
    | cons h1 h2 => exact .cons (dp_kp k l d _ n.1 h1) (dp_kps k l ds _ n.2 h2)
end
theorem dpAll_length {K : PySem.W.Frag} {H : Hp} : ∀ {vs : List V} {ds : List PyData}, DpAll K H vs ds → vs.length = ds.length
  | _, _, .nil => rfl
  | _, _, .cons _ t => by rw [List.length_cons, List.length_cons, dpAll_length t]
theorem dpAll_get {K : PySem.W.Frag} {H : Hp} : ∀ {vs : List V} {ds : List PyData} {i : Nat} {v : V}, DpAll K H vs ds → vs[i]? = some v → ∃ d, ds[i]? = some d ∧ Dp K H v d
  | _, _, _, _, .nil, e => by simp at e
  | _, _, 0, _, .cons r _, e => by
    simp at e
    subst e
    exact ⟨_, rfl, r⟩
  | _, _, i + 1, _, .cons _ t, e => by
    obtain ⟨d, h1, h2⟩ := dpAll_get (i := i) t (by simpa using e)
    exact ⟨d, by simpa using h1, h2⟩
theorem dpAll_getD {K : PySem.W.Frag} {H : Hp} : ∀ {vs : List V} {ds : List PyData} {i : Nat} {d : PyData}, DpAll K H vs ds → ds[i]? = some d → ∃ v, vs[i]? = some v ∧ Dp K H v d
  | _, _, _, _, .nil, e => by simp at e
  | _, _, 0, _, .cons r _, e => by
    simp at e
    subst e
    exact ⟨_, rfl, r⟩
  | _, _, i + 1, _, .cons _ t, e => by
    obtain ⟨d, h1, h2⟩ := dpAll_getD (i := i) t (by simpa using e)
    exact ⟨d, by simpa using h1, h2⟩
/-! ### isinstance of data -/
def tyD : PyData → String
  | .none => "NoneType"
  | .bool _ => "bool"
  | .int _ => "int"
  | .str _ => "str"
  | .list _ => "list"
  | .tuple _ => "tuple"
  | .dict _ => "dict"
theorem isi_dp {K : PySem.W.Frag} {H : Hp} {v : V} {d : PyData} (h : Dp K H v d) : TyX K H v (.type (tyD d)) := by
  cases h with
  | non => exact .base .non
  | bl b => exact .base (.bl b)
  | int i => exact .base (.int i)
  | str x => exact .base (.str x)
  | lst h _ =>
    rcases h with (h | ⟨o, h⟩) | ⟨o, _, _, e, c, _⟩
    · exact .base (.lst h)
    · exact .base (.frz h)
    · exact .kList e c
  | tup h _ => exact isi_tuple h
def isTup : PyData → Bool
  | .tuple _ => true
  | _ => false
def isIntB : PyData → Bool
  | .int _ => true
  | .bool _ => true
  | _ => false
def isBl : PyData → Bool
  | .bool _ => true
  | _ => false
def isNum : PyData → Bool
  | .int _ => true
  | _ => false
theorem kit_tup {K : PySem.W.Frag} (d : PyData) : PySem.W.kitOne K (.type (tyD d)) (.type "tuple") = some (isTup d) := by
  cases d with
  | none => exact kit_ty (show kitB "NoneType" "tuple" = some false by decide +kernel)
  | bool b => exact kit_ty (show kitB "bool" "tuple" = some false by decide +kernel)
  | int i => exact kit_ty (show kitB "int" "tuple" = some false by decide +kernel)
  | str z => exact kit_ty (show kitB "str" "tuple" = some false by decide +kernel)
  | list l => exact kit_ty (show kitB "list" "tuple" = some false by decide +kernel)
  | tuple l => exact kit_ty (show kitB "tuple" "tuple" = some true by decide +kernel)
  | dict l => exact kit_ty (show kitB "dict" "tuple" = some false by decide +kernel)
theorem kit_int {K : PySem.W.Frag} (d : PyData) : PySem.W.kitOne K (.type (tyD d)) (.type "int") = some (isIntB d) := by
  cases d with
  | none => exact kit_ty (show kitB "NoneType" "int" = some false by decide +kernel)
  | bool b => exact kit_ty (show kitB "bool" "int" = some true by decide +kernel)
  | int i => exact kit_ty (show kitB "int" "int" = some true by decide +kernel)
  | str z => exact kit_ty (show kitB "str" "int" = some false by decide +kernel)
  | list l => exact kit_ty (show kitB "list" "int" = some false by decide +kernel)
  | tuple l => exact kit_ty (show kitB "tuple" "int" = some false by decide +kernel)
  | dict l => exact kit_ty (show kitB "dict" "int" = some false by decide +kernel)
theorem kit_bool {K : PySem.W.Frag} (d : PyData) : PySem.W.kitOne K (.type (tyD d)) (.type "bool") = some (isBl d) := by
  cases d with
  | none => exact kit_ty (show kitB "NoneType" "bool" = some false by decide +kernel)
  | bool b => exact kit_ty (show kitB "bool" "bool" = some true by decide +kernel)
  | int i => exact kit_ty (show kitB "int" "bool" = some false by decide +kernel)
  | str z => exact kit_ty (show kitB "str" "bool" = some false by decide +kernel)
  | list l => exact kit_ty (show kitB "list" "bool" = some false by decide +kernel)
  | tuple l => exact kit_ty (show kitB "tuple" "bool" = some false by decide +kernel)
  | dict l => exact kit_ty (show kitB "dict" "bool" = some false by decide +kernel)
theorem isTup_not {d : PyData} (h : isTup d = false) : ∀ ds, d ≠ .tuple ds := by
  intro ds z
  subst z
  cases h
theorem isTup_is {d : PyData} (h : isTup d = true) : ∃ ds, d = .tuple ds := by
  cases d with
  | tuple ds => exact ⟨ds, rfl⟩
  | _ => cases h
theorem isNum_is {d : PyData} (h : isNum d = true) : ∃ i, d = .int i := by
  cases d with
  | int i => exact ⟨i, rfl⟩
  | _ => cases h
theorem dp_int {K : PySem.W.Frag} {H : Hp} {v : V} {i : Int} (h : Dp K H v (.int i)) : v = .int i := by cases h; rfl
theorem dp_tup {K : PySem.W.Frag} {H : Hp} {v : V} {ds : List PyData} (h : Dp K H v (.tuple ds)) : ∃ a xs, v = .ref a ∧ SqT K H a xs ∧ DpAll K H xs ds := by
  cases h with
  | tup h1 h2 => exact ⟨_, _, rfl, h1, h2⟩
/-! ### numbers, places, lots -/
def numOf : PyData → Int
  | .int i => i
  | _ => 0
def numIn (lo hi : Int) (d : PyData) : Bool := isNum d && (decide (lo ≤ numOf d) && decide (numOf d ≤ hi))
theorem numIn_is {lo hi : Int} {d : PyData} (h : numIn lo hi d = true) : ∃ i, d = .int i ∧ lo ≤ i ∧ i ≤ hi := by
  unfold numIn at h
  simp only [Bool.and_eq_true, decide_eq_true_eq] at h
  obtain ⟨i, rfl⟩ := isNum_is h.1
  exact ⟨i, rfl, h.2.1, h.2.2⟩
theorem numIn_int {lo hi i : Int} : numIn lo hi (.int i) = true ↔ lo ≤ i ∧ i ≤ hi := by
  unfold numIn
  simp only [isNum, numOf, Bool.true_and, Bool.and_eq_true]
  exact ⟨fun h => ⟨of_decide_eq_true h.1, of_decide_eq_true h.2⟩, fun h => ⟨decide_eq_true h.1, decide_eq_true h.2⟩⟩
def nD (n : Nat) : PyData := .int (n : Int)
theorem numIn_nat {lo hi : Int} {n : Nat} : numIn lo hi (nD n) = true ↔ lo ≤ (n : Int) ∧ (n : Int) ≤ hi := numIn_int
theorem dp_nat {K : PySem.W.Frag} {H : Hp} (n : Nat) : Dp K H (vN n) (nD n) := .int _
theorem dp_nats {K : PySem.W.Frag} {H : Hp} : ∀ (ws : List Nat), DpAll K H (ws.map vN) (ws.map nD)
  | [] => .nil
  | _ :: ws => .cons (dp_nat _) (dp_nats ws)
theorem nats_dp {K : PySem.W.Frag} {H : Hp} : ∀ {ws : List Nat} {xs : List V}, DpAll K H xs (ws.map nD) → xs = ws.map vN
  | [], _, h => by cases h; rfl
  | w :: ws, _, h => by
    cases h with
    | cons h1 h2 =>
      have := nats_dp (ws := ws) h2
      subst this
      cases h1
      rfl
def lotD (ws : List Nat) : PyData := .tuple (ws.map nD)
theorem dp_lot {K : PySem.W.Frag} {H : Hp} {a : Addr} {ws : List Nat} (h : SqT K H a (ws.map vN)) : Dp K H (.ref a) (lotD ws) := .tup h (dp_nats ws)
theorem lot_dp {K : PySem.W.Frag} {H : Hp} {v : V} {ws : List Nat} (h : Dp K H v (lotD ws)) : ∃ a, v = .ref a ∧ SqT K H a (ws.map vN) := by
  obtain ⟨a, xs, rfl, h1, h2⟩ := dp_tup h
  rw [nats_dp h2] at h1
  exact ⟨a, rfl, h1⟩
/-- the first that is no place or not above the one before it -/
def badPlace (n : Nat) : Int → Nat → List PyData → Option Nat
  | _, _, [] => none
  | b, i, d :: ds => if numIn (b + 1) ((n : Int) - 1) d = true then badPlace n (numOf d) (i + 1) ds else some i
theorem badPlace_ok {n : Nat} : ∀ {ws : List Nat} {b : Int} {i : Nat}, ws.Pairwise (· < ·) → (∀ x ∈ ws, x < n) → (∀ x ∈ ws, b < (x : Int)) → badPlace n b i (ws.map nD) = none
  | [], _, _, _, _, _ => rfl
  | w :: ws, b, i, up, lt, ab => by
    have h1 := lt w List.mem_cons_self
    have h2 := ab w List.mem_cons_self
    show (if numIn (b + 1) ((n : Int) - 1) (nD w) = true then badPlace n (numOf (nD w)) (i + 1) (ws.map nD) else some i) = none
    rw [if_pos (numIn_nat.mpr ⟨by omega, by omega⟩)]
    obtain ⟨u1, u2⟩ := List.pairwise_cons.mp up
    exact badPlace_ok u2 (fun x hx => lt x (List.mem_cons_of_mem _ hx)) fun x hx => by
      have := u1 x hx
      show (w : Int) < x
      omega
theorem badPlace_none {n : Nat} : ∀ {ds : List PyData} {b : Int} {i : Nat}, -1 ≤ b → badPlace n b i ds = none → ∃ ws : List Nat, ds = ws.map nD ∧ ws.Pairwise (· < ·) ∧ (∀ x ∈ ws, x < n) ∧ ∀ x ∈ ws, b < (x : Int)
  | [], _, _, _, _ => ⟨[], rfl, List.Pairwise.nil, (fun _ h => nomatch h), (fun _ h => nomatch h)⟩
  | d :: ds, b, i, hb, h => by
    unfold badPlace at h
    by_cases c : numIn (b + 1) ((n : Int) - 1) d = true
    · rw [if_pos c] at h
      obtain ⟨x, rfl, l1, l2⟩ := numIn_is c
      obtain ⟨ws, rfl, up, lt, ab⟩ := badPlace_none (b := x) (by omega) h
      refine ⟨x.toNat :: ws, ?_, List.pairwise_cons.mpr ⟨fun y hy => ?_, up⟩, fun y hy => ?_, fun y hy => ?_⟩
      · have : (x.toNat : Int) = x := by omega
        simp only [List.map_cons, nD]
        rw [this]
      · have := ab y hy
        omega
      · rcases List.mem_cons.mp hy with rfl | hy
        · omega
        · exact lt y hy
      · rcases List.mem_cons.mp hy with rfl | hy
        · omega
        · have := ab y hy
          omega
    · rw [if_neg c] at h
      cases h
def lotOk (n : Nat) : PyData → Bool
  | .tuple ds => (badPlace n (-1) 0 ds).isNone
  | _ => false
theorem lotOk_lot {n : Nat} {ws : List Nat} (up : ws.Pairwise (· < ·)) (lt : ∀ x ∈ ws, x < n) : lotOk n (lotD ws) = true := by
  unfold lotOk lotD
  simp only []
  rw [badPlace_ok up lt (fun x _ => by omega)]
  rfl
theorem lotOk_is {n : Nat} {d : PyData} (h : lotOk n d = true) : ∃ ws, d = lotD ws ∧ ws.Pairwise (· < ·) ∧ ∀ x ∈ ws, x < n := by
  cases d with
  | tuple ds =>
    unfold lotOk at h
    simp only [Option.isNone_iff_eq_none] at h
    obtain ⟨ws, rfl, up, lt, _⟩ := badPlace_none (by omega) h
    exact ⟨ws, rfl, up, lt⟩
  | _ => cases h
def optI : Option Nat → Option Int
  | none => none
  | some i => some (i : Int)
theorem optI_none {o : Option Nat} (h : optI o = none) : o = none := by
  cases o with
  | none => rfl
  | some i => cases h
/-! ### roads -/
def pairD (p : Nat × Nat) : PyData := .tuple [nD p.1, nD p.2]
def pairOf (n : Nat) : PyData → Option (Nat × Nat)
  | .tuple [a, b] => if (numIn 0 ((n : Int) - 1) a && numIn 0 ((n : Int) - 1) b) = true then some ((numOf a).toNat, (numOf b).toNat) else none
  | _ => none
theorem pairOf_pair {n : Nat} {p : Nat × Nat} (h : p.1 < n ∧ p.2 < n) : pairOf n (pairD p) = some p := by
  unfold pairOf pairD
  simp only []
  rw [if_pos]
  · rfl
  · rw [Bool.and_eq_true, numIn_nat, numIn_nat]
    omega
theorem pairOf_is {n : Nat} {d : PyData} {p : Nat × Nat} (h : pairOf n d = some p) : d = pairD p ∧ p.1 < n ∧ p.2 < n := by
  unfold pairOf at h
  split at h
  · rename_i a b
    split at h
    · rename_i c
      rw [Bool.and_eq_true] at c
      obtain ⟨i, rfl, i1, i2⟩ := numIn_is c.1
      obtain ⟨j, rfl, j1, j2⟩ := numIn_is c.2
      cases h
      refine ⟨?_, ?_, ?_⟩
      · unfold pairD nD
        simp only [numOf]
        rw [show ((i.toNat : Nat) : Int) = i by omega, show ((j.toNat : Nat) : Int) = j by omega]
      · simp only [numOf]
        omega
      · simp only [numOf]
        omega
    · cases h
  · cases h
instance (p q : Nat × Nat) : Decidable (ltP p q) := by unfold ltP; exact inferInstance
def above (p : Option (Nat × Nat)) (q : Nat × Nat) : Bool := match p with
  | none => true
  | some p => decide (ltP p q)
def badRoad (n : Nat) : Option (Nat × Nat) → Nat → List PyData → Option Nat
  | _, _, [] => none
  | p, i, d :: ds => match pairOf n d with
    | none => some i
    | some q => if above p q = true then badRoad n (some q) (i + 1) ds else some i
theorem badRoad_ok {n : Nat} : ∀ {ps : List (Nat × Nat)} {p : Option (Nat × Nat)} {i : Nat}, ps.Pairwise ltP → (∀ q ∈ ps, q.1 < n ∧ q.2 < n) → (∀ q ∈ ps, above p q = true) → badRoad n p i (ps.map pairD) = none
  | [], _, _, _, _, _ => rfl
  | q :: ps, p, i, up, lt, ab => by
    obtain ⟨u1, u2⟩ := List.pairwise_cons.mp up
    show (match pairOf n (pairD q) with
      | none => some i
      | some q => if above p q = true then badRoad n (some q) (i + 1) (ps.map pairD) else some i) = none
    rw [pairOf_pair (lt q List.mem_cons_self)]
    simp only []
    rw [if_pos (ab q List.mem_cons_self)]
    exact badRoad_ok u2 (fun x hx => lt x (List.mem_cons_of_mem _ hx)) fun x hx => decide_eq_true (u1 x hx)
theorem ltP_trans {a b c : Nat × Nat} (h1 : ltP a b) (h2 : ltP b c) : ltP a c := by
  unfold ltP at *
  omega
theorem badRoad_none {n : Nat} : ∀ {ds : List PyData} {p : Option (Nat × Nat)} {i : Nat}, badRoad n p i ds = none → ∃ ps : List (Nat × Nat), ds = ps.map pairD ∧ ps.Pairwise ltP ∧ (∀ q ∈ ps, q.1 < n ∧ q.2 < n) ∧ ∀ q ∈ ps, above p q = true
  | [], _, _, _ => ⟨[], rfl, List.Pairwise.nil, (fun _ h => nomatch h), (fun _ h => nomatch h)⟩
  | d :: ds, p, i, h => by
    unfold badRoad at h
    cases e : pairOf n d with
    | none => rw [e] at h; cases h
    | some q =>
      rw [e] at h
      simp only [] at h
      obtain ⟨e1, e2⟩ := pairOf_is e
      subst e1
      by_cases c : above p q = true
      · rw [if_pos c] at h
        obtain ⟨ps, rfl, up, lt, ab⟩ := badRoad_none h
        have ab' : ∀ x ∈ ps, ltP q x := fun x hx => of_decide_eq_true (ab x hx)
        refine ⟨q :: ps, rfl, List.pairwise_cons.mpr ⟨ab', up⟩, fun x hx => ?_, fun x hx => ?_⟩
        · rcases List.mem_cons.mp hx with rfl | hx
          · exact e2
          · exact lt x hx
        · rcases List.mem_cons.mp hx with rfl | hx
          · exact c
          · cases p with
            | none => rfl
            | some p => exact decide_eq_true (ltP_trans (of_decide_eq_true c) (ab' x hx))
      · rw [if_neg c] at h
        cases h
def roadsErr (n : Nat) : PyData → Option Int
  | .tuple ds => if ds.length ≤ 240 then optI (badRoad n none 0 ds) else some (-3)
  | _ => some (-3)
/-! ### maps -/
def chartD (C : Chart) : PyData := .tuple [nD C.n, .tuple (C.roads.map pairD), lotD C.wished]
def wishErr (n : Nat) : PyData → Option Int
  | .tuple ds => optI (badPlace n (-1) 0 ds)
  | _ => some (-1)
def mapErr3 (p r w : PyData) : Option (Str × Int) :=
  if numIn 0 60 p = true then
    match roadsErr (numOf p).toNat r with
    | some i => some ("BadMap", i)
    | none => (wishErr (numOf p).toNat w).map fun i => ("BadWish", i)
  else some ("BadMap", -2)
def mapErr : PyData → Option (Str × Int)
  | .tuple [p, r, w] => mapErr3 p r w
  | _ => some ("BadMap", -1)
theorem mapErr_chart {C : Chart} (ok : C.Ok) : mapErr (chartD C) = none := by
  have n60 := ok.n60
  unfold chartD mapErr mapErr3
  simp only []
  rw [if_pos (by rw [numIn_nat]; omega)]
  have e : (numOf (nD C.n)).toNat = C.n := by simp [nD, numOf]
  rw [e]
  have e1 : roadsErr C.n (.tuple (C.roads.map pairD)) = none := by
    unfold roadsErr
    simp only []
    rw [if_pos (by rw [List.length_map]; exact ok.many), badRoad_ok ok.upR ok.inR (fun _ _ => rfl)]
    rfl
  have e2 : wishErr C.n (lotD C.wished) = none := by
    unfold wishErr lotD
    simp only []
    rw [badPlace_ok ok.upW ok.inW (fun _ _ => by omega)]
    rfl
  rw [e1, e2]
  rfl
theorem mapErr3_none {p r w : PyData} (h : mapErr3 p r w = none) : ∃ C : Chart, C.Ok ∧ p = nD C.n ∧ r = .tuple (C.roads.map pairD) ∧ w = lotD C.wished := by
  unfold mapErr3 at h
  split at h
  · rename_i c
    obtain ⟨i, rfl, i1, i2⟩ := numIn_is c
    have ei : ((numOf (PyData.int i)).toNat : Int) = i := by simp only [numOf]; omega
    cases e : roadsErr (numOf (.int i)).toNat r with
    | some j => rw [e] at h; cases h
    | none =>
      rw [e] at h
      simp only [Option.map_eq_none_iff] at h
      cases r with
      | tuple rs =>
        unfold roadsErr at e
        simp only [] at e
        split at e
        · rename_i l
          have e := optI_none e
          obtain ⟨ps, rfl, up, lt, _⟩ := badRoad_none e
          cases w with
          | tuple ws =>
            unfold wishErr at h
            have h := optI_none h
            obtain ⟨vs, rfl, upv, ltv, _⟩ := badPlace_none (by omega) h
            refine ⟨⟨(numOf (.int i)).toNat, ps, vs⟩, ⟨?_, ?_, lt, up, ltv, upv⟩, ?_, rfl, rfl⟩
            · show (numOf (.int i)).toNat ≤ 60
              omega
            · rw [List.length_map] at l
              exact l
            · show PyData.int i = .int ((numOf (.int i)).toNat : Int)
              rw [ei]
          | _ => cases h
        · cases e
      | _ => cases e
  · cases h
theorem mapErr_none {d : PyData} (h : mapErr d = none) : ∃ C : Chart, C.Ok ∧ d = chartD C := by
  unfold mapErr at h
  split at h
  · obtain ⟨C, ok, rfl, rfl, rfl⟩ := mapErr3_none h
    exact ⟨C, ok, rfl⟩
  · cases h
theorem dp_pairs {K : PySem.W.Frag} {H : Hp} : ∀ {ts : List Addr} {ps : List (Nat × Nat)}, PairsAt K H ts ps → DpAll K H (ts.map V.ref) (ps.map pairD)
  | _, _, .nil => .nil
  | _, _, .cons r t => .cons (.tup r (.cons (dp_nat _) (.cons (dp_nat _) .nil))) (dp_pairs t)
theorem pairs_dp {K : PySem.W.Frag} {H : Hp} : ∀ {ps : List (Nat × Nat)} {xs : List V}, DpAll K H xs (ps.map pairD) → ∃ ts, xs = ts.map V.ref ∧ PairsAt K H ts ps
  | [], _, h => by cases h; exact ⟨[], rfl, .nil⟩
  | p :: ps, _, h => by
    cases h with
    | cons h1 h2 =>
      obtain ⟨ts, rfl, q⟩ := pairs_dp (ps := ps) h2
      obtain ⟨a, xs, rfl, hs, ha⟩ := dp_tup h1
      have e : xs = [p.1, p.2].map vN := nats_dp (ws := [p.1, p.2]) ha
      subst e
      exact ⟨a :: ts, rfl, .cons hs q⟩
theorem dp_chart {K : PySem.W.Frag} {H : Hp} {c : Addr} {C : Chart} (h : IsChart K H c C) : Dp K H (.ref c) (chartD C) := by
  obtain ⟨r, w, ts, q⟩ := h
  exact .tup q.top (.cons (dp_nat _) (.cons (.tup q.row (dp_pairs q.prs)) (.cons (dp_lot q.wis) .nil)))
theorem chart_dp {K : PySem.W.Frag} {H : Hp} {v : V} {C : Chart} (h : Dp K H v (chartD C)) : ∃ c, v = .ref c ∧ IsChart K H c C := by
  obtain ⟨c, xs, rfl, hs, ha⟩ := dp_tup h
  cases ha with
  | cons h1 ha =>
    cases ha with
    | cons h2 ha =>
      cases ha with
      | cons h3 ha =>
        cases ha
        cases h1
        obtain ⟨r, ys, rfl, hr, har⟩ := dp_tup h2
        obtain ⟨w, rfl, hw⟩ := lot_dp h3
        obtain ⟨ts, rfl, pr⟩ := pairs_dp har
        exact ⟨c, rfl, r, w, ts, hs, hr, pr, hw⟩
/-! ### standings -/
/-- the first that is no place -/
def noPlace (n : Nat) : Nat → List PyData → Option Nat
  | _, [] => none
  | i, d :: ds => if numIn 0 ((n : Int) - 1) d = true then noPlace n (i + 1) ds else some i
def standErr (n : Nat) : PyData → Option Int
  | .tuple ds => if 1 ≤ ds.length ∧ ds.length ≤ 3 then optI (noPlace n 0 ds) else some (-1)
  | _ => some (-1)
theorem noPlace_ok {n : Nat} : ∀ {ws : List Nat} {i : Nat}, (∀ x ∈ ws, x < n) → noPlace n i (ws.map nD) = none
  | [], _, _ => rfl
  | w :: ws, i, lt => by
    have h1 := lt w List.mem_cons_self
    show (if numIn 0 ((n : Int) - 1) (nD w) = true then noPlace n (i + 1) (ws.map nD) else some i) = none
    rw [if_pos (numIn_nat.mpr ⟨by omega, by omega⟩)]
    exact noPlace_ok fun x hx => lt x (List.mem_cons_of_mem _ hx)
theorem noPlace_none {n : Nat} : ∀ {ds : List PyData} {i : Nat}, noPlace n i ds = none → ∃ ws : List Nat, ds = ws.map nD ∧ ∀ x ∈ ws, x < n
  | [], _, _ => ⟨[], rfl, (fun _ h => nomatch h)⟩
  | d :: ds, i, h => by
    unfold noPlace at h
    by_cases c : numIn 0 ((n : Int) - 1) d = true
    · rw [if_pos c] at h
      obtain ⟨x, rfl, l1, l2⟩ := numIn_is c
      obtain ⟨ws, rfl, lt⟩ := noPlace_none h
      refine ⟨x.toNat :: ws, ?_, fun y hy => ?_⟩
      · have : (x.toNat : Int) = x := by omega
        simp only [List.map_cons, nD]
        rw [this]
      · rcases List.mem_cons.mp hy with rfl | hy
        · omega
        · exact lt y hy
    · rw [if_neg c] at h
      cases h
theorem standErr_ok {n : Nat} {S : List Nat} (lt : ∀ x ∈ S, x < n) (l1 : 1 ≤ S.length) (l3 : S.length ≤ 3) : standErr n (lotD S) = none := by
  unfold standErr lotD
  simp only []
  rw [if_pos (by rw [List.length_map]; exact ⟨l1, l3⟩), noPlace_ok lt]
  rfl
theorem standErr_none {n : Nat} {d : PyData} (h : standErr n d = none) : ∃ S : List Nat, d = lotD S ∧ (∀ x ∈ S, x < n) ∧ 1 ≤ S.length ∧ S.length ≤ 3 := by
  cases d with
  | tuple ds =>
    unfold standErr at h
    simp only [] at h
    split at h
    · rename_i c
      have h := optI_none h
      obtain ⟨ws, rfl, lt⟩ := noPlace_none h
      rw [List.length_map] at c
      exact ⟨ws, rfl, lt, c.1, c.2⟩
    · cases h
  | _ => cases h
end Ft

set_option Elab.async false
set_option linter.all false
set_option maxRecDepth 100000
set_option maxHeartbeats 4000000
namespace Ft
open PySem PySem.Spec PyProof.Rows L2
theorem Er.g {P : Program} {w : World} {K : PySem.W.Frag} {mg : Str → Option Value} {base : Heap} {ca : Str → Addr} {x : Str} (e : Er P w K mg base ca x) : mg x = some (.ref (ca x)) := let ⟨_, _, h, _⟩ := e.ex; h.g
/-- the errors of a class keep what they were made with -/
structure WhatC (K : PySem.W.Frag) (C : Addr) : Prop where
  xf : XfC K C
  no : PySem.W.findIn K (.ref C) "what" = some none
theorem Er.w {P : Program} {w : World} {K : PySem.W.Frag} {mg : Str → Option Value} {base : Heap} {ca : Str → Addr} {x : Str} (e : Er P w K mg base ca x) : WhatC K (ca x) := let ⟨_, _, h, _⟩ := e.ex; ⟨h.xf, h.noW⟩
/-- error.what, in the suite of a clause -/
def tWhat (K : PySem.W.Frag) (a : Addr) (cls : Value) (d : Option Addr) (te : TE) : TE := fun σ H Q => te σ H fun x H1 => x = .ref a ∧ ∃ (C dd : Addr) (v : V), cls = .ref C ∧ WhatC K C ∧ d = some dd ∧ H1 dd = some (.xd [("what", v)]) ∧ Q v H1
theorem pe_what {X : Cx} {a : Addr} {oe : Obj} {cls : Value} {d : Option Addr} {pn : List (Addr × Obj)} {e : Expr} {te : TE} {pos : Pos}
    (hz : Zc cls d oe) (hf : ∃ vs, oe.data = .fields vs) (he : PE (X.suite a ((a, oe) :: pn)) e te) (hb : attributeBase e "what" X.env (eval e X.env) = eval e X.env := by rfl) :
    PE (X.suite a ((a, oe) :: pn)) (.Attribute e "what" pos) (tWhat X.K a cls d te) := by
  refine ⟨fun pins s σ H Q I h => ?_⟩
  have he2 : PE (X.suite a ((a, oe) :: pn)) e (fun σ H Q => ∃ M : V → Hp → Prop, te σ H M ∧ ∀ v H', M v H' → Q v H') := ⟨fun pins s σ H Q I ⟨M, hm, hu⟩ => thn (he.run pins s σ H M I hm) fun u s1 ⟨v, H1, I1, r, m⟩ => ⟨v, H1, I1, r, hu v H1 m⟩⟩
  refine attr_of hb (thn (he2.run pins s σ H (fun x H1 => x = .ref a ∧ ∃ (C dd : Addr) (v : V), cls = .ref C ∧ WhatC X.K C ∧ d = some dd ∧ H1 dd = some (.xd [("what", v)]) ∧ Q v H1) I ⟨_, h, fun _ _ z => z⟩) fun u s1 hh => ?_)
  obtain ⟨x, H1, I1, rx, ex, C, dd, v, ec, T, ed, ea, q⟩ := hh
  subst ex
  obtain rfl : u = Value.ref a := rx
  subst ec
  subst ed
  obtain ⟨ha, _⟩ := I1.pin (a, oe) (List.mem_append_left _ List.mem_cons_self)
  obtain ⟨vs, hd⟩ := hf
  have hx : ObjOk X.prog X.w H1 s1.heap dd (.xd [("what", v)]) := I1.hok dd _ ea
  obtain ⟨mA, hns, hr⟩ := hx
  obtain ⟨od, ho, hl⟩ := lookIn_ns hns
  have l : List.lookup ("what" : Str) [(("what" : Str), v)] = some v := by simp [List.lookup]
  obtain ⟨u, hu, ru⟩ := RelO.some_of (v := v) (o := mA "what") (by rw [← l]; exact hr "what")
  have J : PySem.W.InstAt s1.heap a oe C (some od) := ⟨ha, hz.1, by unfold PySem.W.notCls; rw [hd] <;> rfl, by rw [hz.2]; exact ho⟩
  exact HandSPX.exc_get I1.kIn J T.xf.ga T.xf.gg T.xf.exC (PySem.W.findObj_own T.xf.hdC T.no rfl (by rw [hl, hu])) (handed_of ru) ⟨v, H1, I1.tok _, ru, q⟩
/-- an error of the class c is one that «except d» names, or is not -/
def Exm (K : PySem.W.Frag) (ca : Str → Addr) (c d : Str) (b : Bool) : Prop := PySem.W.exmOne K (.ref (ca c)) (.ref (ca d)) = some b
/-- a module's number -/
def MgI (mg : Str → Option Value) (x : Str) (n : Int) : Prop := ∃ t, mg x = some (.int n t)
theorem pe_globI {X : Cx} {x : Str} {n : Int} {pos : Pos} (hg : Gl X x) (h : MgI X.mg x n) (hd : (x == ("__debug__" : Str)) = false := by decide) : PE X (.Name x pos) (tC (.int n)) := by
  obtain ⟨t, h⟩ := h
  exact pe_glob (v := .int n) hg h ⟨_, rfl⟩ hd
end Ft

set_option Elab.async false
set_option linter.all false
set_option maxRecDepth 100000
set_option maxHeartbeats 4000000
namespace Ft
open PySem PySem.Spec PyProof.Rows L2
def top (i : Nat) : Stmt := PySem.Challenge.pw_fewtraps_k09_ways_judged.main.body.getD i (.Pass ⟨0, 0, 0, 0⟩)
abbrev s_made_map : Stmt := top 7
theorem sc_made_map : FnScope ["thing", "places", "roads", "wished", "index"] ["thing"] (L2.defScope s_made_map) := ⟨rfl, rfl, rfl, by decide +kernel, rfl, by decide +kernel, by decide +kernel⟩
abbrev s_is_map : Stmt := top 8
theorem sc_is_map : FnScope ["thing"] ["thing"] (L2.defScope s_is_map) := ⟨rfl, rfl, rfl, by decide +kernel, rfl, by decide +kernel, by decide +kernel⟩
abbrev s_is_number : Stmt := top 9
theorem sc_is_number : FnScope ["thing"] ["thing"] (L2.defScope s_is_number) := ⟨rfl, rfl, rfl, by decide +kernel, rfl, by decide +kernel, by decide +kernel⟩
abbrev s_number_within : Stmt := top 10
theorem sc_number_within : FnScope ["thing", "low", "high"] ["thing", "low", "high"] (L2.defScope s_number_within) := ⟨rfl, rfl, rfl, by decide +kernel, rfl, by decide +kernel, by decide +kernel⟩
abbrev s_first_bad_place : Stmt := top 11
theorem sc_first_bad_place : FnScope ["places", "items", "before", "index", "item"] ["places", "items"] (L2.defScope s_first_bad_place) := ⟨rfl, rfl, rfl, by decide +kernel, rfl, by decide +kernel, by decide +kernel⟩
abbrev s_check_roads : Stmt := top 12
theorem sc_check_roads : FnScope ["places", "roads", "index", "road"] ["places", "roads"] (L2.defScope s_check_roads) := ⟨rfl, rfl, rfl, by decide +kernel, rfl, by decide +kernel, by decide +kernel⟩
abbrev s_road_fits : Stmt := top 13
theorem sc_road_fits : FnScope ["places", "thing"] ["places", "thing"] (L2.defScope s_road_fits) := ⟨rfl, rfl, rfl, by decide +kernel, rfl, by decide +kernel, by decide +kernel⟩
abbrev s_place_fits : Stmt := top 14
theorem sc_place_fits : FnScope ["chart", "thing"] ["chart", "thing"] (L2.defScope s_place_fits) := ⟨rfl, rfl, rfl, by decide +kernel, rfl, by decide +kernel, by decide +kernel⟩
abbrev s_lot_fits : Stmt := top 15
theorem sc_lot_fits : FnScope ["chart", "thing"] ["chart", "thing"] (L2.defScope s_lot_fits) := ⟨rfl, rfl, rfl, by decide +kernel, rfl, by decide +kernel, by decide +kernel⟩
abbrev s_free_fits : Stmt := top 16
theorem sc_free_fits : FnScope ["chart", "thing", "place"] ["chart", "thing"] (L2.defScope s_free_fits) := ⟨rfl, rfl, rfl, by decide +kernel, rfl, by decide +kernel, by decide +kernel⟩
abbrev s_unwished_of : Stmt := top 17
theorem sc_unwished_of : FnScope ["chart", "wished", "place"] ["chart"] (L2.defScope s_unwished_of) := ⟨rfl, rfl, rfl, by decide +kernel, rfl, by decide +kernel, by decide +kernel⟩
abbrev s_ways_right : Stmt := top 19
theorem sc_ways_right : FnScope ["chart", "lot", "free", "thing"] ["chart", "lot", "free", "thing"] (L2.defScope s_ways_right) := ⟨rfl, rfl, rfl, by decide +kernel, rfl, by decide +kernel, by decide +kernel⟩
abbrev s_ways_fit : Stmt := top 20
theorem sc_ways_fit : FnScope ["chart", "lot", "free", "things", "shared", "used", "way", "place", "thing"] ["chart", "lot", "free", "things"] (L2.defScope s_ways_fit) := ⟨rfl, rfl, rfl, by decide +kernel, rfl, by decide +kernel, by decide +kernel⟩
abbrev s_way_fits : Stmt := top 21
theorem sc_way_fits : FnScope ["chart", "lot", "thing", "wished", "roads", "road", "place"] ["chart", "lot", "thing"] (L2.defScope s_way_fits) := ⟨rfl, rfl, rfl, by decide +kernel, rfl, by decide +kernel, by decide +kernel⟩
abbrev s_law_pool : Stmt := top 23
theorem sc_law_pool : FnScope ["script", "first", "size"] ["script"] (L2.defScope s_law_pool) := ⟨rfl, rfl, rfl, by decide +kernel, rfl, by decide +kernel, by decide +kernel⟩
abbrev s_law_draw : Stmt := top 24
theorem sc_law_draw : FnScope ["pool", "many", "cell", "size", "found"] ["pool", "many"] (L2.defScope s_law_draw) := ⟨rfl, rfl, rfl, by decide +kernel, rfl, by decide +kernel, by decide +kernel⟩
abbrev s_law_pick : Stmt := top 25
theorem sc_law_pick : FnScope ["pool", "things"] ["pool", "things"] (L2.defScope s_law_pick) := ⟨rfl, rfl, rfl, by decide +kernel, rfl, by decide +kernel, by decide +kernel⟩
abbrev s_law_turned : Stmt := top 26
theorem sc_law_turned : FnScope ["pool", "many", "left", "found", "turn"] ["pool", "many"] (L2.defScope s_law_turned) := ⟨rfl, rfl, rfl, by decide +kernel, rfl, by decide +kernel, by decide +kernel⟩
abbrev s_law_map_named : Stmt := top 27
theorem sc_law_map_named : FnScope ["pool", "places", "roads", "wished", "names", "told", "a", "b"] ["pool", "places", "roads", "wished"] (L2.defScope s_law_map_named) := ⟨rfl, rfl, rfl, by decide +kernel, rfl, by decide +kernel, by decide +kernel⟩
abbrev s_law_map_some_wished : Stmt := top 28
theorem sc_law_map_some_wished : FnScope ["pool", "places", "roads", "way", "last", "a", "road"] ["pool", "places", "roads"] (L2.defScope s_law_map_some_wished) := ⟨rfl, rfl, rfl, by decide +kernel, rfl, by decide +kernel, by decide +kernel⟩
abbrev s_law_map_drawn : Stmt := top 29
theorem sc_law_map_drawn : FnScope ["pool", "most", "places", "way", "roads", "turn", "a", "b", "ahead", "size"] ["pool", "most"] (L2.defScope s_law_map_drawn) := ⟨rfl, rfl, rfl, by decide +kernel, rfl, by decide +kernel, by decide +kernel⟩
abbrev s_law_map_planted : Stmt := top 30
theorem sc_law_map_planted : FnScope ["pool", "ring", "ways", "behind", "places", "roads", "last", "way", "turn", "wished", "lot", "chart", "names", "told", "a"] ["pool", "ring", "ways", "behind"] (L2.defScope s_law_map_planted) := ⟨rfl, rfl, rfl, by decide +kernel, rfl, by decide +kernel, by decide +kernel⟩
abbrev s_law_map_lot : Stmt := top 31
theorem sc_law_map_lot : FnScope ["pool", "chart", "way", "a"] ["pool", "chart"] (L2.defScope s_law_map_lot) := ⟨rfl, rfl, rfl, by decide +kernel, rfl, by decide +kernel, by decide +kernel⟩
abbrev s_law_way_is_way : Stmt := top 32
theorem sc_law_way_is_way : FnScope ["chart", "lot", "thing", "p", "at"] ["chart", "lot", "thing"] (L2.defScope s_law_way_is_way) := ⟨rfl, rfl, rfl, by decide +kernel, rfl, by decide +kernel, by decide +kernel⟩
abbrev s_law_way_apart : Stmt := top 33
theorem sc_law_way_apart : FnScope ["chart", "lot", "free", "ways", "behind", "way", "p"] ["chart", "lot", "free", "ways"] (L2.defScope s_law_way_apart) := ⟨rfl, rfl, rfl, by decide +kernel, rfl, by decide +kernel, by decide +kernel⟩
abbrev s_law_way_judged : Stmt := top 34
theorem sc_law_way_judged : FnScope ["chart", "lot", "free", "thing", "way"] ["chart", "lot", "free", "thing"] (L2.defScope s_law_way_judged) := ⟨rfl, rfl, rfl, by decide +kernel, rfl, by decide +kernel, by decide +kernel⟩
abbrev s_law_way_no_charts : Stmt := top 35
theorem sc_law_way_no_charts : FnScope ["chart", "places", "roads", "wished", "beyond", "found"] ["chart"] (L2.defScope s_law_way_no_charts) := ⟨rfl, rfl, rfl, by decide +kernel, rfl, by decide +kernel, by decide +kernel⟩
abbrev s_law_way_no_lots : Stmt := top 36
theorem sc_law_way_no_lots : FnScope ["chart"] ["chart"] (L2.defScope s_law_way_no_lots) := ⟨rfl, rfl, rfl, by decide +kernel, rfl, by decide +kernel, by decide +kernel⟩
abbrev s_law_strolled : Stmt := top 37
theorem sc_law_strolled : FnScope ["pool", "chart", "lot", "walk", "turn", "ahead", "a", "b"] ["pool", "chart", "lot"] (L2.defScope s_law_strolled) := ⟨rfl, rfl, rfl, by decide +kernel, rfl, by decide +kernel, by decide +kernel⟩
abbrev s_law_bent_way : Stmt := top 38
theorem sc_law_bent_way : FnScope ["pool", "chart", "way", "at", "kind", "other", "put"] ["pool", "chart", "way"] (L2.defScope s_law_bent_way) := ⟨rfl, rfl, rfl, by decide +kernel, rfl, by decide +kernel, by decide +kernel⟩
abbrev s_law_told : Stmt := top 39
theorem sc_law_told : FnScope ["chart", "lot", "free", "thing"] ["chart", "lot", "free", "thing"] (L2.defScope s_law_told) := ⟨rfl, rfl, rfl, by decide +kernel, rfl, by decide +kernel, by decide +kernel⟩
abbrev s_law_all_told : Stmt := top 40
theorem sc_law_all_told : FnScope ["pool", "chart", "lot", "free", "ways", "things", "at", "bent", "thing"] ["pool", "chart", "lot", "free", "ways"] (L2.defScope s_law_all_told) := ⟨rfl, rfl, rfl, by decide +kernel, rfl, by decide +kernel, by decide +kernel⟩
abbrev s_law_no_arguments : Stmt := top 41
theorem sc_law_no_arguments : FnScope ["chart", "lot", "free", "found", "row", "thing", "p"] ["chart", "lot", "free"] (L2.defScope s_law_no_arguments) := ⟨rfl, rfl, rfl, by decide +kernel, rfl, by decide +kernel, by decide +kernel⟩
abbrev s_law_planted : Stmt := top 42
theorem sc_law_planted : FnScope ["pool", "chart", "ring", "waists", "last", "ways", "free", "at", "waist", "out", "a", "b"] ["pool"] (L2.defScope s_law_planted) := ⟨rfl, rfl, rfl, by decide +kernel, rfl, by decide +kernel, by decide +kernel⟩
abbrev s_law : Stmt := top 43
theorem sc_law : FnScope ["script", "pool", "chart", "lot", "some", "free", "ways", "p", "turn"] ["script"] (L2.defScope s_law) := ⟨rfl, rfl, rfl, by decide +kernel, rfl, by decide +kernel, by decide +kernel⟩
abbrev s_init : Stmt := L2.inClass (top 1) 0
theorem sc_init : FnScope ["self", "what"] ["self", "what"] (L2.defScope s_init) := ⟨rfl, rfl, rfl, by decide +kernel, rfl, by decide +kernel, by decide +kernel⟩
end Ft

set_option Elab.async false
set_option linter.all false
set_option maxRecDepth 100000
set_option maxHeartbeats 4000000
namespace Ft
open PySem PySem.Spec PyProof.Rows L2
section
variable {P : Program} {w : World} {K : PySem.W.Frag} {mg : Str → Option Value} {base : Heap} {ca : Str → Addr}
/-! ### is_number, number_within, of data -/
def sp_is_number (K : PySem.W.Frag) : Sp := fun vs H Q _ => ∃ (v : V) (d : PyData), vs = [v] ∧ Dp K H v d ∧ Q (.bl (isNum d)) H
theorem cal_is_number (T : Txt mg) (D : Def K mg "is_number" s_is_number) : Cal P w K mg base 1 "is_number" (sp_is_number K) := by
  refine cal_of D sc_is_number (fun _ _ _ _ _ _ us hl => match us, hl with | [_], _ => rfl) (fun vs H Q E h => ?_) (fun f cdv A outer s H vs Q E hr h => ?_)
  · obtain ⟨v, d, rfl, _⟩ := h
    rfl
  · obtain ⟨v, d, rfl, hd, q⟩ := h
    refine ⟨_, (pss_one (ps_ret (pe_and (pe_callB (show CallR _ _ (rIsi K) from call_isi) (by rfl) T.isinstance (by decide +kernel) (pa_cons (pv 0) (pa_cons (pe_bltn (v := .ty "int") (u := .type "int") (by rfl) T.int (by decide +kernel) rfl) pa_nil))) (pe_one (pe_not (pe_callB (show CallR _ _ (rIsi K) from call_isi) (by rfl) T.isinstance (by decide +kernel) (pa_cons (pv 0) (pa_cons (pe_bltn (v := .ty "bool") (u := .type "bool") (by rfl) T.bool (by decide +kernel) rfl) pa_nil)))))))), ?_⟩
    refine ⟨_, rfl, _, _, _, _, isIntB d, rfl, .ty "int", isi_dp hd, kit_int d, isIntB d, rfl, ?_⟩
    cases e : isIntB d with
    | false =>
      have : isNum d = false := by cases d <;> first | rfl | cases e
      rw [this] at q
      exact iteF q
    | true =>
      refine iteT ?_
      refine ⟨_, rfl, _, _, _, _, isBl d, rfl, .ty "bool", isi_dp hd, kit_bool d, isBl d, rfl, ?_⟩
      have : isNum d = !isBl d := by cases d <;> first | rfl | cases e
      rw [this] at q
      exact q
def sp_number_within (K : PySem.W.Frag) : Sp := fun vs H Q _ => ∃ (v : V) (d : PyData) (lo hi : Int), vs = [v, .int lo, .int hi] ∧ Dp K H v d ∧ Q (.bl (numIn lo hi d)) H
theorem cal_number_within (T : Txt mg) (D : Def K mg "number_within" s_number_within) (c_is_number : Cal P w K mg base 1 "is_number" (sp_is_number K)) : Cal P w K mg base 2 "number_within" (sp_number_within K) := by
  refine cal_of D sc_number_within (fun _ _ _ _ _ _ us hl => match us, hl with | [_, _, _], _ => rfl) (fun vs H Q E h => ?_) (fun f cdv A outer s H vs Q E hr h => ?_)
  · obtain ⟨v, d, lo, hi, rfl, _⟩ := h
    rfl
  · obtain ⟨v, d, lo, hi, rfl, hd, q⟩ := h
    refine ⟨_, (pss_one (ps_ret (pe_and (pe_c c_is_number hr (by decide) (by rfl) (pa_cons (pv 0) pa_nil)) (pe_one (pe_chain op_le op_le (pv 1) (pv 0) (pv 2)))))), ?_⟩
    refine ⟨_, rfl, v, d, rfl, hd, isNum d, rfl, ?_⟩
    cases e : isNum d with
    | false =>
      have : numIn lo hi d = false := by unfold numIn; rw [e]; rfl
      rw [this] at q
      exact iteF q
    | true =>
      refine iteT ?_
      obtain ⟨i, rfl⟩ := isNum_is e
      cases dp_int hd
      have e2 : numIn lo hi (.int i) = (decide (lo ≤ i) && decide (i ≤ hi)) := by unfold numIn; rw [e]; rfl
      rw [e2] at q
      refine ⟨_, rfl, _, rfl, _, _, rfl, rfl, _, rfl, ?_⟩
      by_cases h1 : lo ≤ i
      · rw [decide_eq_true h1] at q ⊢
        exact iteT ⟨_, rfl, _, _, rfl, rfl, q⟩
      · rw [decide_eq_false h1] at q ⊢
        exact iteF q
end
end Ft

set_option Elab.async false
set_option linter.all false
set_option maxRecDepth 100000
set_option maxHeartbeats 4000000
namespace Ft
open PySem PySem.Spec PyProof.Rows L2
section
variable {P : Program} {w : World} {K : PySem.W.Frag} {mg : Str → Option Value} {base : Heap} {ca : Str → Addr}
theorem get_map {α β : Type} {f : α → β} {l : List α} {i : Nat} {y : β} (h : (l.map f)[i]? = some y) : ∃ x, l[i]? = some x ∧ y = f x := by
  rw [List.getElem?_map] at h
  cases e : l[i]? with
  | none => rw [e] at h; cases h
  | some x => rw [e] at h; exact ⟨x, rfl, (Option.some.inj h).symm⟩
theorem up_get {ws : List Nat} (up : ws.Pairwise (· < ·)) {i j a b : Nat} (hi : ws[i]? = some a) (hj : ws[j]? = some b) (h : i < j) : a < b := by
  obtain ⟨h1, e1⟩ := List.getElem?_eq_some_iff.mp hi
  obtain ⟨h2, e2⟩ := List.getElem?_eq_some_iff.mp hj
  rw [← e1, ← e2]
  exact List.pairwise_iff_getElem.mp up i j h1 h2 h
/-! ### first_bad_place, of data -/
def optV : Option Nat → V
  | none => .non
  | some i => .int (i : Int)
theorem drop_get {α : Type} {l : List α} {i : Nat} {x : α} (h : l[i]? = some x) : l.drop i = x :: l.drop (i + 1) := by
  obtain ⟨hi, e⟩ := List.getElem?_eq_some_iff.mp h
  rw [← e]
  exact List.drop_eq_getElem_cons hi
theorem badPlace_cons {n : Nat} {b : Int} {i : Nat} {d : PyData} {ds : List PyData} : badPlace n b i (d :: ds) = if numIn (b + 1) ((n : Int) - 1) d = true then badPlace n (numOf d) (i + 1) ds else some i := rfl
def sp_first_bad_place (K : PySem.W.Frag) : Sp := fun vs H Q _ => ∃ (n : Nat) (a : Addr) (xs : List V) (ds : List PyData), vs = [vN n, .ref a] ∧ SqT K H a xs ∧ DpAll K H xs ds ∧ ∀ H', Same H H' → Q (optV (badPlace n (-1) 0 ds)) H'
theorem cal_first_bad_place (T : Txt mg) (D : Def K mg "first_bad_place" s_first_bad_place) (c_number_within : Cal P w K mg base 2 "number_within" (sp_number_within K)) : Cal P w K mg base 3 "first_bad_place" (sp_first_bad_place K) := by
  refine cal_of D sc_first_bad_place (fun _ _ _ _ _ _ us hl => match us, hl with | [_, _], _ => rfl) (fun vs H Q E h => ?_) (fun f cdv A outer s H vs Q E hr h => ?_)
  · obtain ⟨n, a, xs, ds, rfl, _⟩ := h
    rfl
  · obtain ⟨n, a, xs, ds, rfl, hW, hD, q⟩ := h
    refine ⟨_, (pss_cons (ps_set (i := 2) sc_first_bad_place.nd rfl (Or.inl rfl) (pe_un un_neg pe_int))
      (pss_cons (ps_for PassesOwn.never rfl (show PI _ _ _ (iEnumT K _) from pi_enumT (by rfl) T.enumerate (pa_cons (pv 1) pa_nil)) (show PG _ _ (gTup K 2 _) from pg_tup (by rfl) (pgs_cons (pg_name (i := 3) sc_first_bad_place.nd rfl (Or.inl rfl)) (pgs_cons (pg_name (i := 4) sc_first_bad_place.nd rfl (Or.inl rfl)) pgs_nil))) (pss_cons (ps_if (pt_not (pt_val (pe_c c_number_within hr (by decide) (by rfl) (pa_cons (pv 4) (pa_cons (pe_op op_add (pv 2) pe_int) (pa_cons (pe_op op_sub (pv 0) pe_int) pa_nil)))))) (pss_one (ps_ret (pv 3))) pss_nil)
        (pss_one (ps_set (i := 2) sc_first_bad_place.nd rfl (Or.inl rfl) (pv 4)))))
      (pss_one (ps_ret pe_non)))), ?_⟩
    refine ⟨_, rfl, _, rfl, a, _, rfl, hW, for_it walk_enumT (fun i σ H' => ∃ (b : Int) (v3 v4 : Option V), σ = [some (vN n), some (.ref a), some (.int b), v3, v4] ∧ Same H H' ∧ badPlace n (-1) 0 ds = badPlace n b i (ds.drop i)) ⟨-1, _, _, rfl, fun _ _ h => h, rfl⟩ (fun i σ H' _ ⟨_, _, _, _, s1, _⟩ => Same.sqT s1 hW) ?_ ?_⟩
    · rintro i x σ H1 H2 hi ⟨b, v3, v4, rfl, s1, eb⟩ ⟨t, x0, y, rfl, nt, rfl, e1, e2⟩
      obtain ⟨d, hd, dd⟩ := dpAll_get hD e2
      have s2 := s1.trans (same_upd (o := .tup [.int (i : Nat), y]) nt)
      rw [drop_get hd, badPlace_cons] at eb
      cases e1
      refine ⟨t, _, rfl, .inl (.inl upd_same), rfl, _, _, rfl, _, _, rfl, rfl, ?_⟩
      refine ⟨_, rfl, _, rfl, _, _, rfl, rfl, _, rfl, _, _, rfl, rfl, _, d, _, _, rfl, Dp.same s2 dd, numIn (b + 1) ((n : Int) - 1) d, rfl, ?_⟩
      cases c : numIn (b + 1) ((n : Int) - 1) d with
      | false =>
        rw [c, if_neg Bool.false_ne_true] at eb
        refine iteT ?_
        have := q _ s2
        rw [eb] at this
        exact ⟨_, rfl, this⟩
      | true =>
        rw [c, if_pos rfl] at eb
        obtain ⟨z, rfl, _, _⟩ := numIn_is c
        cases dp_int dd
        refine iteF ?_
        exact ⟨_, rfl, z, _, _, rfl, s2, eb⟩
    · rintro σ H1 ⟨b, v3, v4, rfl, s1, eb⟩
      rw [dpAll_length hD, List.drop_length] at eb
      have := q H1 s1
      rw [eb] at this
      exact this
/-! ### road_fits, of data -/
def sp_road_fits (K : PySem.W.Frag) : Sp := fun vs H Q _ => ∃ (n : Nat) (v : V) (d : PyData), vs = [vN n, v] ∧ Dp K H v d ∧ Q (.bl (pairOf n d).isSome) H
theorem pairOf_two {n : Nat} {a b : PyData} : (pairOf n (.tuple [a, b])).isSome = (numIn 0 ((n : Int) - 1) a && numIn 0 ((n : Int) - 1) b) := by
  unfold pairOf
  simp only []
  split
  · rename_i h
    rw [h]
    rfl
  · rename_i h
    rw [Bool.not_eq_true] at h
    rw [h]
    rfl
theorem pairOf_len {n : Nat} {ds : List PyData} (h : ds.length ≠ 2) : pairOf n (.tuple ds) = none := by
  unfold pairOf
  split
  · rename_i a b e
    cases e
    exact absurd rfl h
  · rfl
theorem pairOf_not {n : Nat} {d : PyData} (h : isTup d = false) : pairOf n d = none := by
  cases d <;> first | rfl | cases h
theorem cal_road_fits (T : Txt mg) (D : Def K mg "road_fits" s_road_fits) (c_number_within : Cal P w K mg base 2 "number_within" (sp_number_within K)) : Cal P w K mg base 3 "road_fits" (sp_road_fits K) := by
  refine cal_of D sc_road_fits (fun _ _ _ _ _ _ us hl => match us, hl with | [_, _], _ => rfl) (fun vs H Q E h => ?_) (fun f cdv A outer s H vs Q E hr h => ?_)
  · obtain ⟨n, v, d, rfl, _⟩ := h
    rfl
  · obtain ⟨n, v, d, rfl, hd, q⟩ := h
    refine ⟨_, (pss_cons (ps_if (PW.pt (pw_or (pt_not (pt_val (pe_callB (show CallR _ _ (rIsi K) from call_isi) (by rfl) T.isinstance (by decide +kernel) (pa_cons (pv 1) (pa_cons (pe_bltn (v := .ty "tuple") (u := .type "tuple") (by rfl) T.tuple (by decide +kernel) rfl) pa_nil))))) (pw_or1 (pt_cmpR op_ne (pe_callB (show CallR _ _ (rLenS K) from call_lenS) (by rfl) T.len (by decide +kernel) (pa_cons (pv 1) pa_nil)) pe_int (nomark _))))) (pss_one (ps_ret pe_bl)) pss_nil)
      (pss_one (ps_ret (pe_and (pe_c c_number_within hr (by decide) (by rfl) (pa_cons (pe_ix (show IxR _ (rIxT K) from ix_tup) (pv 1) pe_int (fun _ _ => rfl)) (pa_cons pe_int (pa_cons (pe_op op_sub (pv 0) pe_int) pa_nil)))) (pe_one (pe_c c_number_within hr (by decide) (by rfl) (pa_cons (pe_ix (show IxR _ (rIxT K) from ix_tup) (pv 1) pe_int (fun _ _ => rfl)) (pa_cons pe_int (pa_cons (pe_op op_sub (pv 0) pe_int) pa_nil))))))))), ?_⟩
    refine ⟨_, rfl, _, _, _, _, isTup d, rfl, .ty "tuple", isi_dp hd, kit_tup d, isTup d, rfl, ?_⟩
    cases e : isTup d with
    | false =>
      rw [pairOf_not e] at q
      exact iteT (iteT q)
    | true =>
      obtain ⟨ds, rfl⟩ := isTup_is e
      obtain ⟨t, xs, rfl, ht, ha⟩ := dp_tup hd
      refine iteF ?_
      refine ⟨_, rfl, _, _, rfl, .inr ht, rfl, _, rfl, ?_⟩
      by_cases l : ds.length = 2
      · have e2 : (!decide (V.int ((xs.length : Nat) : Int) = V.int 2)) = false := by
          rw [dpAll_length ha, l]
          rfl
        obtain ⟨a, b, rfl⟩ : ∃ a b, ds = [a, b] := by
          match ds, l with
          | [a, b], _ => exact ⟨a, b, rfl⟩
        cases ha with
        | cons h1 h2 =>
          cases h2 with
          | cons h2 h3 =>
            cases h3
            rename_i x y
            refine iteF ?_
            rw [pairOf_two] at q
            refine ⟨_, rfl, _, _, _, _, rfl, rfl, ht, rfl, _, rfl, _, _, rfl, rfl, x, a, _, _, rfl, h1, numIn 0 ((n : Int) - 1) a, rfl, ?_⟩
            cases c : numIn 0 ((n : Int) - 1) a with
            | false =>
              rw [c] at q
              exact iteF q
            | true =>
              rw [c] at q
              refine iteT ?_
              exact ⟨_, rfl, _, _, _, _, rfl, rfl, ht, rfl, _, rfl, _, _, rfl, rfl, y, b, _, _, rfl, h2, q⟩
      · rw [pairOf_len l] at q
        have e2 : (!decide (V.int ((xs.length : Nat) : Int) = V.int 2)) = true := by
          rw [dpAll_length ha, decide_eq_false]
          · rfl
          · intro z
            have z' := V.int.inj z
            omega
        exact ite_any (fun _ => q) (fun z => absurd (show (!decide (V.int ((xs.length : Nat) : Int) = V.int 2)) = false from z) (by rw [e2]; exact fun h => nomatch h))
end
end Ft

set_option Elab.async false
set_option linter.all false
set_option maxRecDepth 100000
set_option maxHeartbeats 4000000
namespace Ft
open PySem PySem.Spec PyProof.Rows L2
section
variable {P : Program} {w : World} {K : PySem.W.Frag} {mg : Str → Option Value} {base : Heap} {ca : Str → Addr}
/-! ### check_roads, of data -/
theorem upP_get {ps : List (Nat × Nat)} (up : ps.Pairwise ltP) {i j : Nat} {a b : Nat × Nat} (hi : ps[i]? = some a) (hj : ps[j]? = some b) (h : i < j) : ltP a b := by
  obtain ⟨h1, e1⟩ := List.getElem?_eq_some_iff.mp hi
  obtain ⟨h2, e2⟩ := List.getElem?_eq_some_iff.mp hj
  rw [← e1, ← e2]
  exact List.pairwise_iff_getElem.mp up i j h1 h2 h
theorem lex_two {a b c d : Nat} :
    Ob.lexAt (fun j => decide (([(c : Int), (d : Int)] : List Int).getD j 0 = ([(a : Int), (b : Int)] : List Int).getD j 0)) (fun j => decide (([(c : Int), (d : Int)] : List Int).getD j 0 ≤ ([(a : Int), (b : Int)] : List Int).getD j 0)) (decide (([(c : Int), (d : Int)] : List Int).length ≤ ([(a : Int), (b : Int)] : List Int).length)) 0 (min ([(c : Int), (d : Int)] : List Int).length ([(a : Int), (b : Int)] : List Int).length) = !decide (ltP (a, b) (c, d)) := by
  simp only [List.length_cons, List.length_nil, Nat.min_self, Ob.lexAt, List.getD_cons_zero, List.getD_cons_succ]
  have e : decide (ltP (a, b) (c, d)) = decide (a < c ∨ (a = c ∧ b < d)) := by
    by_cases h : ltP (a, b) (c, d)
    · rw [decide_eq_true h]
      exact (decide_eq_true h).symm
    · rw [decide_eq_false h]
      exact (decide_eq_false h).symm
  rw [e]
  rcases Nat.lt_trichotomy a c with h | h | h
  · have n1 : ¬ ((c : Int) = a) := by omega
    have n2 : ¬ ((c : Int) ≤ a) := by omega
    have n3 : a < c ∨ (a = c ∧ b < d) := .inl h
    simp [n1, n2, n3]
  · have n1 : ((c : Int) = a) := by omega
    rcases Nat.lt_trichotomy b d with h2 | h2 | h2
    · have n2 : ¬ ((d : Int) = b) := by omega
      have n3 : ¬ ((d : Int) ≤ b) := by omega
      have n4 : a < c ∨ (a = c ∧ b < d) := .inr ⟨h, h2⟩
      simp [n1, n2, n3, n4]
    · have n2 : ((d : Int) = b) := by omega
      have n4 : ¬ (a < c ∨ (a = c ∧ b < d)) := by omega
      simp [n1, n2, n4]
    · have n2 : ¬ ((d : Int) = b) := by omega
      have n3 : ((d : Int) ≤ b) := by omega
      have n4 : ¬ (a < c ∨ (a = c ∧ b < d)) := by omega
      simp [n1, n2, n3, n4]
  · have n1 : ¬ ((c : Int) = a) := by omega
    have n2 : ((c : Int) ≤ a) := by omega
    have n3 : ¬ (a < c ∨ (a = c ∧ b < d)) := by omega
    simp [n1, n2, n3]
theorem badRoad_cons {n : Nat} {p : Option (Nat × Nat)} {i : Nat} {d : PyData} {ds : List PyData} : badRoad n p i (d :: ds) = match pairOf n d with
    | none => some i
    | some q => if above p q = true then badRoad n (some q) (i + 1) ds else some i := rfl
theorem pair_dp {K : PySem.W.Frag} {H : Hp} {v : V} {p : Nat × Nat} (h : Dp K H v (pairD p)) : ∃ t, v = .ref t ∧ SqT K H t [vN p.1, vN p.2] := by
  obtain ⟨a, xs, rfl, hs, ha⟩ := dp_tup h
  have e : xs = [p.1, p.2].map vN := nats_dp (ws := [p.1, p.2]) ha
  subst e
  exact ⟨a, rfl, hs⟩
def spX_check_roads (K : PySem.W.Frag) (ca : Str → Addr) : Sp := fun vs H Q E => ∃ (n : Nat) (v : V) (d : PyData), vs = [vN n, v] ∧ Dp K H v d ∧ (roadsErr n d = none → ∀ H', Same H H' → Q .non H') ∧ ∀ i, roadsErr n d = some i → Raised K ca H E ("BadMap", .int i)
theorem cal_check_roads (T : Txt mg) (D : Def K mg "check_roads" s_check_roads) (m_MOST_ROADS : MgI mg "MOST_ROADS" 240) (e_BadMap : Er P w K mg base ca "BadMap") (c_road_fits : Cal P w K mg base 3 "road_fits" (sp_road_fits K)) : CalX P w K mg base 4 "check_roads" (spX_check_roads K ca) := by
  refine calx_of D sc_check_roads (fun _ _ _ _ _ _ us hl => match us, hl with | [_, _], _ => rfl) (fun vs H Q E h => ?_) (fun f cdv A outer s H vs Q E hr h => ?_)
  · obtain ⟨n, v, d, rfl, _⟩ := h
    rfl
  · obtain ⟨n, v, d, rfl, hd, q, r⟩ := h
    refine ⟨_, (pss_cons (ps_if (PW.pt (pw_or (pt_not (pt_val (pe_callB (show CallR _ _ (rIsi K) from call_isi) (by rfl) T.isinstance (by decide +kernel) (pa_cons (pv 1) (pa_cons (pe_bltn (v := .ty "tuple") (u := .type "tuple") (by rfl) T.tuple (by decide +kernel) rfl) pa_nil))))) (pw_or1 (pt_cmpR op_gt (pe_callB (show CallR _ _ (rLenS K) from call_lenS) (by rfl) T.len (by decide +kernel) (pa_cons (pv 1) pa_nil)) (pe_globI (n := 240) rfl m_MOST_ROADS) (nomark _))))) (pss_one (ps_raiseE rfl e_BadMap hr (by decide) (takes_of rfl rfl rfl rfl) (by rfl) (pa_cons (pe_un un_neg pe_int) pa_nil))) pss_nil)
      (pss_one (ps_for (passes_of rfl) rfl (show PI _ _ _ (iEnumT K _) from pi_enumT (by rfl) T.enumerate (pa_cons (pv 1) pa_nil)) (show PG _ _ (gTup K 2 _) from pg_tup (by rfl) (pgs_cons (pg_name (i := 2) sc_check_roads.nd rfl (Or.inl rfl)) (pgs_cons (pg_name (i := 3) sc_check_roads.nd rfl (Or.inl rfl)) pgs_nil))) (pss_cons (ps_if (pt_not (pt_val (pe_c c_road_fits hr (by decide) (by rfl) (pa_cons (pv 0) (pa_cons (pv 3) pa_nil))))) (pss_one (ps_raiseE rfl e_BadMap hr (by decide) (takes_of rfl rfl rfl rfl) (by rfl) (pa_cons (pv 2) pa_nil))) pss_nil)
        (pss_one (ps_if (PW.pt (pw_and (pt_cmpR op_gt (pv 2) pe_int (nomark _)) (pw_and1 (pt_cmpR (show OpR _ _ (rLeT K) from op_leT hr.units0) (pv 3) (pe_ix (show IxR _ (rIxT K) from ix_tup) (pv 1) (pe_op op_sub (pv 2) pe_int) (fun _ _ => rfl)) (nomark _))))) (pss_one (ps_raiseE rfl e_BadMap hr (by decide) (takes_of rfl rfl rfl rfl) (by rfl) (pa_cons (pv 2) pa_nil))) pss_nil)))))), ?_⟩
    refine ⟨_, rfl, _, _, _, _, isTup d, rfl, .ty "tuple", isi_dp hd, kit_tup d, isTup d, rfl, ?_⟩
    cases e : isTup d with
    | false =>
      refine iteT (iteT ?_)
      refine ⟨_, rfl, _, rfl, fun dd hdd => ?_⟩
      exact r (-3) (by cases d <;> first | rfl | cases e) dd _ _ (same_upd hdd) upd_same (.int _)
    | true =>
      obtain ⟨ds, rfl⟩ := isTup_is e
      obtain ⟨a, xs, rfl, hR, hP⟩ := dp_tup hd
      have len := dpAll_length hP
      refine iteF ?_
      refine ⟨_, rfl, _, _, rfl, .inr hR, _, _, rfl, rfl, _, rfl, ?_⟩
      by_cases many : ds.length ≤ 240
      · rw [decide_eq_false (show ¬ ((240 : Int) < (xs.length : Nat)) by rw [len]; omega)]
        have er : roadsErr n (.tuple ds) = optI (badRoad n none 0 ds) := if_pos many
        rw [er] at q
        have r : ∀ i, optI (badRoad n none 0 ds) = some i → _ := fun i h => r i (er.trans h)
        refine iteF ?_
        refine ⟨_, rfl, a, _, rfl, hR, for_it walk_enumT (fun i σ H' => ∃ (v3 v4 : Option V) (p : Option (Nat × Nat)), σ = [some (vN n), some (.ref a), v3, v4] ∧ Same H H' ∧ badRoad n none 0 ds = badRoad n p i (ds.drop i) ∧ (i = 0 → p = none) ∧ ∀ i', i = i' + 1 → ∃ q, p = some q ∧ ds[i']? = some (pairD q)) ⟨_, _, none, rfl, (fun _ _ h => h), rfl, (fun _ => rfl), fun i' h => nomatch h⟩ (fun i σ H' _ ⟨_, _, _, _, s1, _⟩ => Same.sqT s1 hR) ?_ ?_⟩
        · rintro i x σ H1 H2 hi ⟨v3, v4, p, rfl, s1, eb, p0, pp⟩ ⟨t, x0, y, rfl, nt, rfl, e1, e2⟩
          obtain ⟨dy, hdy, dd⟩ := dpAll_get hP e2
          have s2 := s1.trans (same_upd (o := .tup [.int (i : Nat), y]) nt)
          rw [drop_get hdy, badRoad_cons] at eb
          cases e1
          refine ⟨t, _, rfl, .inl (.inl upd_same), rfl, _, _, rfl, _, _, rfl, rfl, ?_⟩
          refine ⟨_, rfl, _, rfl, n, y, dy, rfl, Dp.same s2 dd, (pairOf n dy).isSome, rfl, ?_⟩
          cases ep : pairOf n dy with
          | none =>
            rw [ep] at eb
            refine iteT ?_
            refine ⟨_, rfl, _, rfl, fun dx hdx => ?_⟩
            exact r i (by rw [eb]; rfl) dx _ _ (s2.trans (same_upd hdx)) upd_same (.int _)
          | some qr =>
            rw [ep] at eb
            simp only [] at eb
            obtain ⟨rfl, b1, b2⟩ := pairOf_is ep
            obtain ⟨z, rfl, pz⟩ := pair_dp dd
            refine iteF ?_
            refine ⟨_, rfl, _, _, rfl, rfl, _, rfl, ?_⟩
            cases i with
            | zero =>
              rw [decide_eq_false (show ¬ ((0 : Int) < ((0 : Nat) : Int)) by omega)]
              rw [p0 rfl] at eb
              rw [if_pos (show above none qr = true from rfl)] at eb
              refine iteF (iteF ⟨_, _, some qr, rfl, s2, eb, (fun h => nomatch h), fun i' h => ⟨qr, rfl, ?_⟩⟩)
              cases h
              exact hdy
            | succ i' =>
              rw [decide_eq_true (show (0 : Int) < ((i' + 1 : Nat) : Int) by omega)]
              refine iteT ?_
              obtain ⟨q0, rfl, hq0⟩ := pp i' rfl
              obtain ⟨y0, hy0, dy0⟩ := dpAll_getD hP hq0
              obtain ⟨z0, rfl, pz0⟩ := pair_dp dy0
              have ei : atI xs (((i' + 1 : Nat) : Int) - 1) = some (.ref z0) := by
                have e : ((i' + 1 : Nat) : Int) - 1 = (i' : Nat) := by omega
                rw [e]
                exact atI_nat hy0
              refine ⟨_, rfl, _, rfl, _, rfl, _, _, rfl, rfl, a, _, _, _, rfl, rfl, Same.sqT s2 hR, ei, z, z0, [(qr.1 : Int), (qr.2 : Int)], [(q0.1 : Int), (q0.2 : Int)], rfl, rfl, Same.sqT s2 pz, Same.sqT s2 pz0, _, rfl, ?_⟩
              rw [lex_two]
              by_cases lt : ltP q0 qr
              · have e3 : (!decide (ltP (q0.1, q0.2) (qr.1, qr.2))) = false := by rw [decide_eq_true (show ltP (q0.1, q0.2) (qr.1, qr.2) from lt)]; rfl
                rw [e3]
                rw [if_pos (show above (some q0) qr = true from decide_eq_true lt)] at eb
                refine iteF ⟨_, _, some qr, rfl, s2, eb, (fun h => nomatch h), fun j h => ⟨qr, rfl, ?_⟩⟩
                cases h
                exact hdy
              · have e3 : (!decide (ltP (q0.1, q0.2) (qr.1, qr.2))) = true := by rw [decide_eq_false (show ¬ ltP (q0.1, q0.2) (qr.1, qr.2) from lt)]; rfl
                rw [e3]
                rw [if_neg (show ¬ above (some q0) qr = true from fun h => lt (of_decide_eq_true h))] at eb
                refine iteT ?_
                refine ⟨_, rfl, _, rfl, fun dx hdx => ?_⟩
                exact r ((i' + 1 : Nat) : Int) (by rw [eb]; rfl) dx _ _ (s2.trans (same_upd hdx)) upd_same (.int _)
        · rintro σ H1 ⟨v3, v4, p, rfl, s1, eb, _⟩
          rw [len, List.drop_length] at eb
          exact q (by rw [eb]; rfl) H1 s1
      · rw [decide_eq_true (show ((240 : Int) < (xs.length : Nat)) by rw [len]; omega)]
        refine iteT ?_
        refine ⟨_, rfl, _, rfl, fun dx hdx => ?_⟩
        exact r (-3) (if_neg many) dx _ _ (same_upd hdx) upd_same (.int _)
end
end Ft

set_option Elab.async false
set_option linter.all false
set_option maxRecDepth 100000
set_option maxHeartbeats 4000000
namespace Ft
open PySem PySem.Spec PyProof.Rows L2
section
variable {P : Program} {w : World} {K : PySem.W.Frag} {mg : Str → Option Value} {base : Heap} {ca : Str → Addr}
/-! ### made_map, of data -/
theorem mapErr_not {d : PyData} (h : isTup d = false) : mapErr d = some (("BadMap" : Str), -1) := by
  cases d <;> first | rfl | cases h
theorem mapErr_len {ds : List PyData} (h : ds.length ≠ 3) : mapErr (.tuple ds) = some (("BadMap" : Str), -1) := by
  unfold mapErr
  split
  · rename_i a b c e
    cases e
    exact absurd rfl h
  · rfl
theorem mapErr_name {d : PyData} {x : Str} {i : Int} (h : mapErr d = some (x, i)) : x = "BadMap" ∨ x = "BadWish" := by
  unfold mapErr at h
  split at h
  · rename_i p r w
    unfold mapErr3 at h
    split at h
    · cases e : roadsErr (numOf p).toNat r with
      | some j => rw [e] at h; cases h; exact .inl rfl
      | none =>
        rw [e] at h
        cases e2 : wishErr (numOf p).toNat w with
        | some j => rw [e2] at h; cases h; exact .inr rfl
        | none => rw [e2] at h; cases h
    · cases h
      exact .inl rfl
  · cases h
    exact .inl rfl
/-- what is wanted behind a check: the answer, or the error that is due -/
def Due (K : PySem.W.Frag) (ca : Str → Addr) (H : Hp) (E : XK) (e : Option (Str × Int)) (ok : Prop) : Prop := (e = none → ok) ∧ ∀ x i, e = some (x, i) → Raised K ca H E (x, .int i)
def spX_made_map (K : PySem.W.Frag) (ca : Str → Addr) : Sp := fun vs H Q E => ∃ (v : V) (d : PyData), vs = [v] ∧ Dp K H v d ∧ Due K ca H E (mapErr d) (∀ c C c' H', v = .ref c → d = chartD C → C.Ok → Same H H' → IsChart K H' c' C → Q (.ref c') H')
def mapErrN (n : Nat) (rd wd : PyData) : Option (Str × Int) := match roadsErr n rd with
  | some i => some ("BadMap", i)
  | none => match wishErr n wd with
    | some i => some ("BadWish", i)
    | none => none
theorem mapErrN_map {n : Nat} {rd wd : PyData} {i : Int} (h : roadsErr n rd = some i) : mapErrN n rd wd = some (("BadMap" : Str), i) := by unfold mapErrN; rw [h]
theorem mapErrN_wish {n : Nat} {rd wd : PyData} {i : Int} (h : roadsErr n rd = none) (h2 : wishErr n wd = some i) : mapErrN n rd wd = some (("BadWish" : Str), i) := by unfold mapErrN; rw [h, h2]
theorem mapErrN_none {n : Nat} {rd wd : PyData} (h : roadsErr n rd = none) (h2 : wishErr n wd = none) : mapErrN n rd wd = none := by unfold mapErrN; rw [h, h2]
theorem dpAll_three {K : PySem.W.Frag} {H : Hp} {xs : List V} {a b c : PyData} (h : DpAll K H xs [a, b, c]) : ∃ x y z, xs = [x, y, z] ∧ Dp K H x a ∧ Dp K H y b ∧ Dp K H z c := by
  cases h with
  | cons h1 h =>
    cases h with
    | cons h2 h =>
      cases h with
      | cons h3 h =>
        cases h
        exact ⟨_, _, _, rfl, h1, h2, h3⟩
theorem dpAll_two {K : PySem.W.Frag} {H : Hp} {xs : List V} {a b : PyData} (h : DpAll K H xs [a, b]) : ∃ x y, xs = [x, y] ∧ Dp K H x a ∧ Dp K H y b := by
  cases h with
  | cons h1 h =>
    cases h with
    | cons h2 h =>
      cases h
      exact ⟨_, _, rfl, h1, h2⟩
theorem nD_toNat (n : Nat) : (numOf (nD n)).toNat = n := by simp [nD, numOf]
theorem int_nD {i : Int} (h : 0 ≤ i) : PyData.int i = nD (numOf (.int i)).toNat := by
  show PyData.int i = .int ((numOf (.int i)).toNat : Int)
  have : ((numOf (PyData.int i)).toNat : Int) = i := by
    simp only [numOf]
    omega
  rw [this]
theorem cal_made_map (T : Txt mg) (D : Def K mg "made_map" s_made_map) (m_MOST_PLACES : MgI mg "MOST_PLACES" 60) (e_BadMap : Er P w K mg base ca "BadMap") (e_BadWish : Er P w K mg base ca "BadWish") (c_number_within : Cal P w K mg base 2 "number_within" (sp_number_within K)) (c_check_roads : CalX P w K mg base 4 "check_roads" (spX_check_roads K ca))
    (c_first_bad_place : Cal P w K mg base 3 "first_bad_place" (sp_first_bad_place K)) : CalX P w K mg base 5 "made_map" (spX_made_map K ca) := by
  refine calx_of D sc_made_map (fun _ _ _ _ _ _ us hl => match us, hl with | [_], _ => rfl) (fun vs H Q E h => ?_) (fun f cdv A outer s H vs Q E hr h => ?_)
  · obtain ⟨v, d, rfl, _⟩ := h
    rfl
  · obtain ⟨v, d, rfl, hd, q, r⟩ := h
    have r : ∀ x i, mapErr d = some (x, i) → Raised K ca H E (x, .int i) := r
    refine ⟨_, (pss_cons (ps_if (PW.pt (pw_or (pt_not (pt_val (pe_callB (show CallR _ _ (rIsi K) from call_isi) (by rfl) T.isinstance (by decide +kernel) (pa_cons (pv 0) (pa_cons (pe_bltn (v := .ty "tuple") (u := .type "tuple") (by rfl) T.tuple (by decide +kernel) rfl) pa_nil))))) (pw_or1 (pt_cmpR op_ne (pe_callB (show CallR _ _ (rLenS K) from call_lenS) (by rfl) T.len (by decide +kernel) (pa_cons (pv 0) pa_nil)) pe_int (nomark _))))) (pss_one (ps_raiseE rfl e_BadMap hr (by decide) (takes_of rfl rfl rfl rfl) (by rfl) (pa_cons (pe_un un_neg pe_int) pa_nil))) pss_nil)
      (pss_cons (ps_asg (pv 0) (show PG _ _ (gTup K 3 _) from pg_tup (by rfl) (pgs_cons (pg_name (i := 1) sc_made_map.nd rfl (Or.inl rfl)) (pgs_cons (pg_name (i := 2) sc_made_map.nd rfl (Or.inl rfl)) (pgs_cons (pg_name (i := 3) sc_made_map.nd rfl (Or.inl rfl)) pgs_nil)))))
      (pss_cons (ps_if (pt_not (pt_val (pe_c c_number_within hr (by decide) (by rfl) (pa_cons (pv 1) (pa_cons pe_int (pa_cons (pe_globI (n := 60) rfl m_MOST_PLACES) pa_nil)))))) (pss_one (ps_raiseE rfl e_BadMap hr (by decide) (takes_of rfl rfl rfl rfl) (by rfl) (pa_cons (pe_un un_neg pe_int) pa_nil))) pss_nil)
      (pss_cons (ps_expr (pe_x (takes_of rfl rfl rfl rfl) c_check_roads hr (by decide) (by rfl) (pa_cons (pv 1) (pa_cons (pv 2) pa_nil))))
      (pss_cons (ps_if (pt_not (pt_val (pe_callB (show CallR _ _ (rIsi K) from call_isi) (by rfl) T.isinstance (by decide +kernel) (pa_cons (pv 3) (pa_cons (pe_bltn (v := .ty "tuple") (u := .type "tuple") (by rfl) T.tuple (by decide +kernel) rfl) pa_nil))))) (pss_one (ps_raiseE rfl e_BadWish hr (by decide) (takes_of rfl rfl rfl rfl) (by rfl) (pa_cons (pe_un un_neg pe_int) pa_nil))) pss_nil)
      (pss_cons (ps_set (i := 4) sc_made_map.nd rfl (Or.inl rfl) (pe_c c_first_bad_place hr (by decide) (by rfl) (pa_cons (pv 1) (pa_cons (pv 3) pa_nil))))
      (pss_cons (ps_if (pt_cmpR op_notN (pv 4) pe_non (nomark _)) (pss_one (ps_raiseE rfl e_BadWish hr (by decide) (takes_of rfl rfl rfl rfl) (by rfl) (pa_cons (pv 4) pa_nil))) pss_nil)
      (pss_one (ps_ret (pe_tup (pa_cons (pv 1) (pa_cons (pv 2) (pa_cons (pv 3) pa_nil))))))))))))), ?_⟩
    refine ⟨_, rfl, _, _, _, _, isTup d, rfl, .ty "tuple", isi_dp hd, kit_tup d, isTup d, rfl, ?_⟩
    cases e : isTup d with
    | false =>
      refine iteT (iteT ?_)
      exact ⟨_, rfl, _, rfl, fun dd hdd => r _ _ (mapErr_not e) dd _ _ (same_upd hdd) upd_same (.int _)⟩
    | true =>
      obtain ⟨ds, rfl⟩ := isTup_is e
      obtain ⟨c, xs, rfl, hC, hP⟩ := dp_tup hd
      have len := dpAll_length hP
      refine iteF ?_
      refine ⟨_, rfl, _, _, rfl, .inr hC, rfl, _, rfl, ?_⟩
      by_cases l : ds.length = 3
      · have e2 : (!decide (V.int ((xs.length : Nat) : Int) = V.int 3)) = false := by
          rw [len, l]
          rfl
        refine ite_any (fun z => absurd (show (!decide (V.int ((xs.length : Nat) : Int) = V.int 3)) = true from z) (by rw [e2]; exact fun h => nomatch h)) (fun _ => ?_)
        obtain ⟨p, rd, wd, rfl⟩ : ∃ a b c, ds = [a, b, c] := by
          match ds, l with
          | [a, b, c], _ => exact ⟨a, b, c, rfl⟩
        obtain ⟨vp, vr, vw, rfl, h1, h2, h3⟩ := dpAll_three hP
        refine ⟨_, rfl, c, _, rfl, hC, rfl, _, _, rfl, _, _, rfl, _, _, rfl, rfl, ?_⟩
        refine ⟨_, rfl, _, p, _, _, rfl, h1, numIn 0 60 p, rfl, ?_⟩
        have em : mapErr (.tuple [p, rd, wd]) = mapErr3 p rd wd := rfl
        rw [em] at q
        have r : ∀ x i, mapErr3 p rd wd = some (x, i) → _ := fun x i h => r x i (em.trans h)
        cases cn : numIn 0 60 p with
        | false =>
          refine iteT ?_
          exact ⟨_, rfl, _, rfl, fun dd hdd => r _ _ (by unfold mapErr3; rw [cn]; rfl) dd _ _ (same_upd hdd) upd_same (.int _)⟩
        | true =>
          obtain ⟨i, rfl, i1, i2⟩ := numIn_is cn
          cases dp_int h1
          obtain ⟨n, ep⟩ : ∃ n : Nat, PyData.int i = nD n := ⟨_, int_nD i1⟩
          have ei : i = (n : Int) := by
            have z : PyData.int i = .int (n : Int) := ep
            cases z
            rfl
          subst ei
          refine iteF ?_
          have e3 : mapErr3 (nD n) rd wd = mapErrN n rd wd := by
            unfold mapErr3 mapErrN
            rw [if_pos (by rw [numIn_nat]; omega), nD_toNat]
            cases roadsErr n rd with
            | some i => rfl
            | none => cases wishErr n wd <;> rfl
          have r : ∀ x i, mapErrN n rd wd = some (x, i) → Raised K ca H E (x, .int i) := fun x i h => r x i (e3.trans h)
          have q : mapErrN n rd wd = none → _ := fun h => q (e3.trans h)
          refine ⟨_, rfl, _, rfl, n, vr, rd, rfl, h2, fun er H1 s1 => ?_, fun j er => ?_⟩
          · have h31 := Dp.same s1 h3
            refine ⟨_, rfl, _, _, _, _, isTup wd, rfl, .ty "tuple", isi_dp h31, kit_tup wd, isTup wd, rfl, ?_⟩
            cases ew : isTup wd with
            | false =>
              have ew' : wishErr n wd = some (-1) := by cases wd <;> first | rfl | cases ew
              refine iteT ?_
              exact ⟨_, rfl, _, rfl, fun dd hdd => r _ _ (mapErrN_wish er ew') dd _ _ (s1.trans (same_upd hdd)) upd_same (.int _)⟩
            | true =>
              obtain ⟨wds, rfl⟩ := isTup_is ew
              obtain ⟨wa, ys, rfl, hW, hWs⟩ := dp_tup h31
              refine iteF ?_
              refine ⟨_, rfl, _, rfl, n, wa, ys, wds, rfl, hW, hWs, fun H2 s2 => ?_⟩
              have s12 := s1.trans s2
              have ew2 : wishErr n (.tuple wds) = optI (badPlace n (-1) 0 wds) := rfl
              cases eb : badPlace n (-1) 0 wds with
              | some k =>
                refine ⟨_, rfl, rfl, _, rfl, iteT ?_⟩
                exact ⟨_, rfl, _, rfl, fun dd hdd => r _ _ (mapErrN_wish er (by rw [ew2, eb]; rfl)) dd _ _ (s12.trans (same_upd hdd)) upd_same (.int _)⟩
              | none =>
                refine ⟨_, rfl, rfl, _, rfl, iteF ?_⟩
                have e1 : mapErrN n rd (.tuple wds) = none := mapErrN_none er (by rw [ew2, eb]; rfl)
                have e0 : mapErr3 (nD n) rd (.tuple wds) = none := e3.trans e1
                obtain ⟨C, ok, p1, p2, p3⟩ := mapErr3_none e0
                refine ⟨_, rfl, _, rfl, _, rfl, (by show 3 ≤ sizeLine; decide), fun p' hp => ?_⟩
                have s3 := s12.trans (same_upd (o := .tup [vN n, vr, .ref wa]) hp)
                have dd : Dp K (upd H2 p' (.tup [vN n, vr, .ref wa])) (.ref p') (chartD C) := by
                  have z : chartD C = .tuple [nD n, rd, .tuple wds] := by
                    unfold chartD
                    rw [← p1, ← p2, ← p3]
                  rw [z]
                  exact .tup (.inl (.inl upd_same)) (.cons (.int _) (.cons (Dp.same s3 h2) (.cons (Dp.same (s2.trans (same_upd hp)) h31) .nil)))
                obtain ⟨c2, ec, isC⟩ := chart_dp dd
                cases ec
                refine q e1 c C p' _ rfl ?_ ok s3 isC
                show PyData.tuple [nD n, rd, .tuple wds] = _
                unfold chartD
                rw [← p1, ← p2, ← p3]
          · intro dd H' v s' hdd hv
            exact r _ _ (mapErrN_map er) dd H' v s' hdd hv
      · refine ite_any (fun _ => ?_) (fun z => absurd (show (!decide (V.int ((xs.length : Nat) : Int) = V.int 3)) = false from z) (by
          rw [len, decide_eq_false]
          · exact fun h => nomatch h
          · intro z
            have z' := V.int.inj z
            omega))
        exact ⟨_, rfl, _, rfl, fun dd hdd => r _ _ (mapErr_len l) dd _ _ (same_upd hdd) upd_same (.int _)⟩
/-- of a map -/
def sp_made_map (K : PySem.W.Frag) : Sp := fun vs H Q _ => ∃ (c : Addr) (C : Chart), vs = [.ref c] ∧ IsChart K H c C ∧ C.Ok ∧ ∀ c' H', Same H H' → IsChart K H' c' C → Q (.ref c') H'
theorem chartD_inj {C C' : Chart} (h : chartD C = chartD C') : C = C' := by
  obtain ⟨n, rs, ws⟩ := C
  obtain ⟨n', rs', ws'⟩ := C'
  unfold chartD lotD at h
  simp only [PyData.tuple.injEq, List.cons.injEq, and_true] at h
  obtain ⟨h1, h2, h3⟩ := h
  have inN : ∀ {a b : Nat}, nD a = nD b → a = b := fun {a b} z => by
    have z' : PyData.int (a : Int) = .int (b : Int) := z
    cases z'
    rfl
  have inL : ∀ {f : Nat → PyData} {g : Nat → PyData}, True := fun {_ _} => trivial
  have e3 : ws = ws' := by
    refine List.map_inj_right (f := nD) (fun {a b} z => inN z) |>.mp h3
  have e2 : rs = rs' := by
    refine List.map_inj_right (f := pairD) (fun {a b} z => ?_) |>.mp h2
    unfold pairD at z
    simp only [PyData.tuple.injEq, List.cons.injEq, and_true] at z
    exact Prod.ext (inN z.1) (inN z.2)
  rw [inN h1, e2, e3]
theorem lotD_inj {ws ws' : List Nat} (h : lotD ws = lotD ws') : ws = ws' := by
  unfold lotD at h
  simp only [PyData.tuple.injEq] at h
  exact List.map_inj_right (f := nD) (fun {a b} z => by
    have z' : PyData.int (a : Int) = .int (b : Int) := z
    cases z'
    rfl) |>.mp h
theorem calv_made_map (c_made_map : CalX P w K mg base 5 "made_map" (spX_made_map K ca)) : Cal P w K mg base 5 "made_map" (sp_made_map K) :=
  c_made_map.valid fun vs H Q E ⟨c, C, e, isC, ok, q⟩ => ⟨_, _, e, dp_chart isC, fun _ c0 C' c' H' ec eC _ s' isC' => q c' H' s' (by rw [chartD_inj eC]; exact isC'), fun x i h => by rw [mapErr_chart ok] at h; cases h⟩
end
end Ft

set_option Elab.async false
set_option linter.all false
set_option maxRecDepth 100000
set_option maxHeartbeats 4000000
namespace Ft
open PySem PySem.Spec PyProof.Rows L2
section
variable {P : Program} {w : World} {K : PySem.W.Frag} {mg : Str → Option Value} {base : Heap} {ca : Str → Addr}
/-! ### place_fits, check_place, lot_fits, check_lot, of data -/
def rngD (n : Nat) (d : PyData) : Bool := numIn 0 ((n : Int) - 1) d
theorem rngD_nat {n i : Nat} (h : i < n) : rngD n (nD i) = true := numIn_nat.mpr ⟨by omega, by omega⟩
theorem rngD_is {n : Nat} {d : PyData} (h : rngD n d = true) : ∃ i, d = nD i ∧ i < n := by
  obtain ⟨i, rfl, h1, h2⟩ := numIn_is h
  refine ⟨i.toNat, ?_, by omega⟩
  show PyData.int i = .int (i.toNat : Int)
  rw [show ((i.toNat : Nat) : Int) = i by omega]
def sp_place_fits (K : PySem.W.Frag) : Sp := fun vs H Q _ => ∃ (c : Addr) (n : Nat) (v : V) (d : PyData) (r wd : Addr), vs = [.ref c, v] ∧ SqT K H c [vN n, .ref r, .ref wd] ∧ Dp K H v d ∧ Q (.bl (rngD n d)) H
theorem cal_place_fits (T : Txt mg) (D : Def K mg "place_fits" s_place_fits) (c_number_within : Cal P w K mg base 2 "number_within" (sp_number_within K)) : Cal P w K mg base 3 "place_fits" (sp_place_fits K) := by
  refine cal_of D sc_place_fits (fun _ _ _ _ _ _ us hl => match us, hl with | [_, _], _ => rfl) (fun vs H Q E h => ?_) (fun f cdv A outer s H vs Q E hr h => ?_)
  · obtain ⟨c, n, v, d, r, wd, rfl, _⟩ := h
    rfl
  · obtain ⟨c, n, v, d, r, wd, rfl, hc, hd, q⟩ := h
    refine ⟨_, (pss_one (ps_ret (pe_c c_number_within hr (by decide) (by rfl) (pa_cons (pv 1) (pa_cons pe_int (pa_cons (pe_op op_sub (pe_ix (show IxR _ (rIxT K) from ix_tup) (pv 0) pe_int (fun _ _ => rfl)) pe_int) pa_nil)))))), ?_⟩
    exact ⟨_, rfl, _, rfl, _, _, _, _, rfl, rfl, hc, rfl, _, _, rfl, rfl, v, d, _, _, rfl, hd, q⟩
def sp_lot_fits (K : PySem.W.Frag) : Sp := fun vs H Q _ => ∃ (c r wd : Addr) (n : Nat) (v : V) (d : PyData), vs = [.ref c, v] ∧ SqT K H c [vN n, .ref r, .ref wd] ∧ Dp K H v d ∧ ∀ H', Same H H' → Q (.bl (lotOk n d)) H'
theorem cal_lot_fits (T : Txt mg) (D : Def K mg "lot_fits" s_lot_fits) (c_first_bad_place : Cal P w K mg base 3 "first_bad_place" (sp_first_bad_place K)) : Cal P w K mg base 4 "lot_fits" (sp_lot_fits K) := by
  refine cal_of D sc_lot_fits (fun _ _ _ _ _ _ us hl => match us, hl with | [_, _], _ => rfl) (fun vs H Q E h => ?_) (fun f cdv A outer s H vs Q E hr h => ?_)
  · obtain ⟨c, r, wd, n, v, d, rfl, _⟩ := h
    rfl
  · obtain ⟨c, r, wd, n, v, d, rfl, hc, hd, q⟩ := h
    refine ⟨_, (pss_one (ps_ret (pe_and (pe_callB (show CallR _ _ (rIsi K) from call_isi) (by rfl) T.isinstance (by decide +kernel) (pa_cons (pv 1) (pa_cons (pe_bltn (v := .ty "tuple") (u := .type "tuple") (by rfl) T.tuple (by decide +kernel) rfl) pa_nil))) (pe_one (pe_cmpR op_isN (pe_c c_first_bad_place hr (by decide) (by rfl) (pa_cons (pe_ix (show IxR _ (rIxT K) from ix_tup) (pv 0) pe_int (fun _ _ => rfl)) (pa_cons (pv 1) pa_nil))) pe_non (nomark _)))))), ?_⟩
    refine ⟨_, rfl, _, _, _, _, isTup d, rfl, .ty "tuple", isi_dp hd, kit_tup d, isTup d, rfl, ?_⟩
    cases e : isTup d with
    | false =>
      have : lotOk n d = false := by cases d <;> first | rfl | cases e
      rw [this] at q
      exact iteF (q H fun _ _ h => h)
    | true =>
      obtain ⟨ds, rfl⟩ := isTup_is e
      obtain ⟨a, xs, rfl, hT, hD⟩ := dp_tup hd
      refine iteT ?_
      refine ⟨_, rfl, _, _, _, _, rfl, rfl, hc, rfl, _, rfl, n, a, xs, ds, rfl, hT, hD, fun H2 s2 => ?_⟩
      have z := q H2 s2
      have e2 : lotOk n (.tuple ds) = (badPlace n (-1) 0 ds).isNone := rfl
      rw [e2] at z
      cases eb : badPlace n (-1) 0 ds with
      | none =>
        rw [eb] at z
        exact ⟨rfl, z⟩
      | some k =>
        rw [eb] at z
        exact ⟨rfl, z⟩
end
end Ft

set_option Elab.async false
set_option linter.all false
set_option maxRecDepth 100000
set_option maxHeartbeats 4000000
namespace Ft
open PySem PySem.Spec PyProof.Rows L2
/-- the places to which roads of the row lead from a, in the row's order -/
def succs (rs : List (Nat × Nat)) (a : Nat) : List Nat := (rs.filter fun p => p.1 == a).map (·.2)
theorem succs_more (rs : List (Nat × Nat)) (p : Nat × Nat) (a : Nat) : succs (rs ++ [p]) a = if p.1 = a then succs rs a ++ [p.2] else succs rs a := by
  unfold succs
  rw [List.filter_append, List.map_append]
  by_cases h : p.1 = a
  · rw [if_pos h]
    have : (p.1 == a) = true := by simp [h]
    simp [List.filter_cons, this]
  · rw [if_neg h]
    have : (p.1 == a) = false := by simp [h]
    simp [List.filter_cons, this]
theorem succs_len (rs : List (Nat × Nat)) (a : Nat) : (succs rs a).length ≤ rs.length := by
  unfold succs
  rw [List.length_map]
  exact List.length_filter_le _ _
theorem succs_mem {rs : List (Nat × Nat)} {a b : Nat} : b ∈ succs rs a ↔ (a, b) ∈ rs := by
  unfold succs
  simp only [List.mem_map, List.mem_filter, beq_iff_eq]
  constructor
  · rintro ⟨⟨x, y⟩, ⟨h1, h2⟩, h3⟩
    dsimp at h2 h3
    subst h2 h3
    exact h1
  · intro h
    exact ⟨(a, b), ⟨h, rfl⟩, rfl⟩
theorem nodup_inj {α : Type} {l : List α} (nd : l.Nodup) {i j : Nat} {a : α} (hi : l[i]? = some a) (hj : l[j]? = some a) : i = j := by
  obtain ⟨h1, e1⟩ := List.getElem?_eq_some_iff.mp hi
  obtain ⟨h2, e2⟩ := List.getElem?_eq_some_iff.mp hj
  have ap := List.pairwise_iff_getElem.mp nd
  rcases Nat.lt_trichotomy i j with h | h | h
  · exact absurd (e1.trans e2.symm) (ap i j h1 h2 h)
  · exact h
  · exact absurd (e2.trans e1.symm) (ap j i h2 h1 h)
theorem take_more {α : Type} {l : List α} {i : Nat} {x : α} (h : l[i]? = some x) : l.take (i + 1) = l.take i ++ [x] := by
  rw [List.take_add_one, h]
  rfl
section
variable {P : Program} {w : World} {K : PySem.W.Frag} {mg : Str → Option Value} {base : Heap} {t1 t2 : Tok}
/-! ### roads_from -/
/-- a list of lists of places stands at q -/
structure LotsAt (H : Hp) (q : Addr) (ls : List Addr) (f : Nat → List Nat) : Prop where
  top : H q = some (.lst (ls.map V.ref))
  each : ∀ a l, ls[a]? = some l → H l = some (.lst ((f a).map vN))
def sp_roads_from (K : PySem.W.Frag) : Sp := fun vs H Q _ => ∃ (c : Addr) (C : Chart), vs = [.ref c] ∧ IsChart K H c C ∧ C.Ok ∧ ∀ q ls H', Same H H' → ls.length = C.n → LotsAt H' q ls (succs C.roads) → Q (.ref q) H'
end
end Ft

set_option Elab.async false
set_option linter.all false
set_option maxRecDepth 100000
set_option maxHeartbeats 4000000
namespace Ft
open PySem PySem.Spec PyProof.Rows L2
section
variable {P : Program} {w : World} {K : PySem.W.Frag} {mg : Str → Option Value} {base : Heap} {t1 t2 : Tok}
theorem up_nodup {l : List Nat} (h : l.Pairwise (· < ·)) : l.Nodup := h.imp fun h e => by omega
theorem up_len {l : List Nat} {n : Nat} (h : l.Pairwise (· < ·)) (b : ∀ a ∈ l, a < n) : l.length ≤ n := by
  have := nat_nodup_len l (List.range n) (up_nodup h) fun x hx => List.mem_range.mpr (b x hx)
  rwa [List.length_range] at this
/-! ### unwished_of -/
def unw (C : Chart) : List Nat := (List.range C.n).filter fun a => !decide (a ∈ C.wished)
theorem range_more (n i : Nat) (h : i < n) : (List.range n).take (i + 1) = (List.range n).take i ++ [i] := by
  refine take_more ?_
  rw [List.getElem?_range h]
theorem range_take_mem {n i a : Nat} (h : i ≤ n) : a ∈ (List.range n).take i ↔ a < i := by
  have e : (List.range n).take i = List.range i := by
    rw [List.take_range, Nat.min_eq_left h]
  rw [e, List.mem_range]
def sp_unwished_of (K : PySem.W.Frag) : Sp := fun vs H Q _ => ∃ (c : Addr) (C : Chart), vs = [.ref c] ∧ IsChart K H c C ∧ C.Ok ∧ ∀ q H', Same H H' → H q = none → H' q = some (.lst ((unw C).map vN)) → Q (.ref q) H'
theorem cal_unwished_of (T : Txt mg) (D : Def K mg "unwished_of" s_unwished_of) : Cal P w K mg base 2 "unwished_of" (sp_unwished_of K) := by
  refine cal_of D sc_unwished_of (fun _ _ _ _ _ _ us hl => match us, hl with | [_], _ => rfl) (fun vs H Q E h => ?_) (fun f cdv A outer s H vs Q E hr h => ?_)
  · obtain ⟨c, C, rfl, _⟩ := h
    rfl
  · obtain ⟨c, C, rfl, ⟨r, wd, ts, hC⟩, ok, q⟩ := h
    have n60 := ok.n60
    refine ⟨_, (pss_cons (ps_set (i := 1) sc_unwished_of.nd rfl (Or.inr rfl) (pe_callTy (show CallR _ _ (rSetI K w) from cr_setI rfl) (by rfl) T.set (by decide +kernel) (pa_cons (pe_ix (show IxR _ (rIxT K) from ix_tup) (pv 0) pe_int (fun _ _ => rfl)) pa_nil)))
      (pss_one (ps_ret (pe_lc (own := [("place", 2)]) rfl sc_unwished_of.nd (pi_range1 (by rfl) T.range (pa_cons (pe_ix (show IxR _ (rIxT K) from ix_tup) (pv 0) pe_int (fun _ _ => rfl)) pa_nil)) (blkOk_by (N := ["chart", "wished", "place"]) (sc := L2.defScope s_unwished_of) (by decide +kernel)) (fun _ _ _ _ _ => (pg_name (i := 2) sc_unwished_of.nd rfl (Or.inl rfl))) (fun _ _ _ _ _ => pts_one (pt_cmpR (show OpR _ _ (rSNotIn w) from or_snotin) (pv 2) (pv 1) (by rfl))) (fun _ _ _ _ _ => (pv 2)))))), ?_⟩
    have lenW : (iN C.wished).length ≤ 1000 := by
      rw [iN_length]
      have := up_len ok.upW ok.inW
      omega
    refine ⟨_, rfl, _, _, _, _, rfl, rfl, hC.top, rfl, wd, iN C.wished, rfl, .inr (by rw [← vN_map]; exact hC.wis), lenW, fun p n0 hp hn0 => ?_⟩
    have s1 : Same H (upd H p (SetO w p (fun j => decide (j ∈ iN C.wished)) n0)) := same_upd hp
    have hC1 := hC.same s1
    refine ⟨_, rfl, _, _, _, _, rfl, rfl, hC1.top, rfl, _, rfl, by omega, by omega, fun d hd => ?_⟩
    have npd : p ≠ d := ne_of_none upd_same hd
    refine lc_range (lo := 0) (n := C.n) (fun i H' => Same H H' ∧ H' p = some (SetO w p (fun j => decide (j ∈ iN C.wished)) n0) ∧ H' d = some (.lst ((((List.range C.n).take i).filter fun a => !decide (a ∈ C.wished)).map vN)))
      ⟨s1.trans (same_upd hd), by rw [upd_ne npd]; exact upd_same, upd_same⟩ ?_ ?_
    · rintro i H1 hi ⟨s2, hp2, hd2⟩
      refine ⟨rfl, ?_⟩
      refine ⟨_, rfl, _, rfl, _, _, _, _, rfl, rfl, hp2, _, rfl, ?_⟩
      have e0 : (0 : Int) + (i : Nat) = (i : Nat) := by omega
      have e1 : decide ((0 : Int) + (i : Nat) ∈ iN C.wished) = decide (i ∈ C.wished) := by
        rw [e0]
        exact decide_eq_decide.mpr iN_mem
      rw [e1, range_more _ _ hi, List.filter_append]
      by_cases hw : i ∈ C.wished
      · rw [decide_eq_true hw]
        refine iteF ⟨s2, hp2, ?_⟩
        rw [hd2]
        simp [hw]
      · rw [decide_eq_false hw]
        refine iteT ?_
        refine ⟨_, rfl, _, hd2, ?_, ?_, ?_, ?_⟩
        · rw [List.length_map]
          have h1 := List.length_filter_le (fun a => !decide (a ∈ C.wished)) ((List.range C.n).take i)
          have h2 : ((List.range C.n).take i).length ≤ i := by rw [List.length_take]; omega
          exact small1000 (by omega)
        · intro b o e
          rw [upd_ne (ne_of_none e (s1.free hd))]
          exact s2 b o e
        · rw [upd_ne npd]
          exact hp2
        · rw [upd_same, List.map_append, e0]
          simp [hw]
          rfl
    · rintro H1 ⟨s2, hp2, hd2⟩
      rw [List.take_of_length_le (by rw [List.length_range]; exact Nat.le_refl _)] at hd2
      exact q d H1 s2 (s1.free hd) hd2
end
end Ft

set_option Elab.async false
set_option linter.all false
set_option maxRecDepth 100000
set_option maxHeartbeats 4000000
/-! Plain mathematics: ascending lists, reach -/
namespace Ft
theorem asc_ext : ∀ {l1 l2 : List Nat}, l1.Pairwise (· < ·) → l2.Pairwise (· < ·) → (∀ x, x ∈ l1 ↔ x ∈ l2) → l1 = l2
  | [], [], _, _, _ => rfl
  | [], b :: l2, _, _, h => absurd ((h b).mpr List.mem_cons_self) List.not_mem_nil
  | a :: l1, [], _, _, h => absurd ((h a).mp List.mem_cons_self) List.not_mem_nil
  | a :: l1, b :: l2, h1, h2, h => by
    obtain ⟨a1, p1⟩ := List.pairwise_cons.mp h1
    obtain ⟨a2, p2⟩ := List.pairwise_cons.mp h2
    have e : a = b := by
      rcases List.mem_cons.mp ((h a).mp List.mem_cons_self) with e | m
      · exact e
      · rcases List.mem_cons.mp ((h b).mpr List.mem_cons_self) with e | m'
        · exact e.symm
        · have := a2 a m
          have := a1 b m'
          omega
    subst e
    refine congrArg (a :: ·) (asc_ext p1 p2 fun x => ⟨fun m => ?_, fun m => ?_⟩)
    · rcases List.mem_cons.mp ((h x).mp (List.mem_cons_of_mem _ m)) with e | m'
      · have := a1 x m
        omega
      · exact m'
    · rcases List.mem_cons.mp ((h x).mpr (List.mem_cons_of_mem _ m)) with e | m'
      · have := a2 x m
        omega
      · exact m'
/-- the places below n with a property, ascending -/
noncomputable def those (n : Nat) (P : Nat → Prop) : List Nat := (List.range n).filter fun b => @decide (P b) (Classical.propDecidable _)
theorem range_up (n : Nat) : (List.range n).Pairwise (· < ·) := List.pairwise_lt_range
theorem those_up (n : Nat) (P : Nat → Prop) : (those n P).Pairwise (· < ·) := (range_up n).filter _
theorem those_mem {n : Nat} {P : Nat → Prop} {b : Nat} : b ∈ those n P ↔ b < n ∧ P b := by
  unfold those
  rw [List.mem_filter, List.mem_range]
  simp
theorem those_is {n : Nat} {P : Nat → Prop} {l : List Nat} (up : l.Pairwise (· < ·)) (h : ∀ x, x ∈ l ↔ x < n ∧ P x) : l = those n P :=
  asc_ext up (those_up n P) fun x => (h x).trans those_mem.symm
/-- a sorted copy of numbers -/
theorem sorted_iN {F : List Nat} (nd : F.Nodup) {ys : List Int} (pm : ys.Perm (F.map fun (n : Nat) => (n : Int))) (up : ys.Pairwise (· ≤ ·)) :
    ∃ l : List Nat, ys = l.map (fun (n : Nat) => (n : Int)) ∧ l.Pairwise (· < ·) ∧ ∀ x, x ∈ l ↔ x ∈ F := by
  have nn : ∀ y ∈ ys, 0 ≤ y := by
    intro y hy
    obtain ⟨n, _, e⟩ := List.mem_map.mp (pm.mem_iff.mp hy)
    omega
  have e : ys = (ys.map Int.toNat).map (fun (n : Nat) => (n : Int)) := by
    rw [List.map_map]
    conv => lhs; rw [← List.map_id ys]
    exact List.map_congr_left fun y hy => (Int.toNat_of_nonneg (nn y hy)).symm
  have ndy : ys.Nodup := by
    refine pm.nodup_iff.mpr ?_
    exact List.pairwise_map.mpr (nd.imp fun h e => h (by omega))
  refine ⟨ys.map Int.toNat, e, ?_, fun x => ?_⟩
  · refine List.pairwise_map.mpr ?_
    have both : ys.Pairwise fun a b => a ≤ b ∧ a ≠ b := List.Pairwise.and up ndy
    refine List.Pairwise.imp_of_mem (fun {a b} ha hb h => ?_) both
    have h1 := nn a ha
    have h2 := nn b hb
    omega
  · constructor
    · intro h
      obtain ⟨y, hy, e1⟩ := List.mem_map.mp h
      obtain ⟨n, hn, e2⟩ := List.mem_map.mp (pm.mem_iff.mp hy)
      have : n = x := by omega
      exact this ▸ hn
    · intro h
      have : (x : Int) ∈ ys := pm.mem_iff.mpr (List.mem_map.mpr ⟨x, h, rfl⟩)
      exact List.mem_map.mpr ⟨(x : Int), this, by omega⟩
/-- from a place along roads over unwished places -/
inductive Reach (rs : List (Nat × Nat)) (ws : List Nat) : Nat → Nat → Prop
  | one {a b : Nat} : (a, b) ∈ rs → Reach rs ws a b
  | more {a b c : Nat} : Reach rs ws a b → b ∉ ws → (b, c) ∈ rs → Reach rs ws a c
theorem Reach.cons {rs : List (Nat × Nat)} {ws : List Nat} {a b c : Nat} (h : (a, b) ∈ rs) (hb : b ∉ ws) (r : Reach rs ws b c) : Reach rs ws a c := by
  induction r with
  | one h2 => exact .more (.one h) hb h2
  | more _ h2 h3 ih => exact .more ih h2 h3
theorem Reach.trans {rs : List (Nat × Nat)} {ws : List Nat} {a b c : Nat} (r : Reach rs ws a b) (hb : b ∉ ws) (q : Reach rs ws b c) : Reach rs ws a c := by
  induction q with
  | one h2 => exact .more r hb h2
  | more _ h2 h3 ih => exact .more ih h2 h3
/-- what is closed and holds the first steps holds all -/
theorem Reach.within {rs : List (Nat × Nat)} {ws : List Nat} {S : Nat → Prop} {a b : Nat} (r : Reach rs ws a b) (h1 : ∀ x, (a, x) ∈ rs → S x) (h2 : ∀ x y, S x → x ∉ ws → (x, y) ∈ rs → S y) : S b := by
  induction r with
  | one h => exact h1 _ h
  | more _ hb h ih => exact h2 _ _ ih hb h
/-- the places that some place of S comes to -/
noncomputable def met (n : Nat) (rs : List (Nat × Nat)) (ws S : List Nat) : List Nat := those n fun b => ∃ a ∈ S, Reach rs ws a b
end Ft

set_option Elab.async false
set_option linter.all false
set_option maxRecDepth 100000
set_option maxHeartbeats 4000000
namespace Ft
open PySem PySem.Spec PyProof.Rows L2
/-- a dict of places, each with True -/
def keysOf (F : List Nat) : List (Key × V) := F.map fun (n : Nat) => ((Sum.inl (n : Int) : Key), V.bl true)
theorem keysOf_val : ∀ (F : List Nat) (x : Nat), valV (keysOf F) (Sum.inl (x : Int) : Key) = if x ∈ F then some (.bl true) else none
  | [], x => by simp [keysOf, valV]
  | a :: F, x => by
    have ih := keysOf_val F x
    unfold valV keysOf at ih ⊢
    rw [List.map_cons, List.find?_cons]
    by_cases h : a = x
    · subst h
      simp
    · have e : decide (((Sum.inl (a : Int) : Key)) = Sum.inl (x : Int)) = false := by
        refine decide_eq_false fun q => h ?_
        have := Sum.inl.inj q
        omega
      have hx : x ≠ a := fun q => h q.symm
      simp only [e, List.mem_cons, hx, false_or]
      exact ih
theorem keysOf_put (F : List Nat) (x : Nat) (h : x ∉ F) : putK (keysOf F) (Sum.inl (x : Int) : Key) (.bl true) = keysOf (F ++ [x]) := by
  rw [putK_new _ (by rw [keysOf_val, if_neg h])]
  unfold keysOf
  rw [List.map_append]
  rfl
theorem keysOf_len (F : List Nat) : (keysOf F).length = F.length := List.length_map ..
theorem keysOf_keys (F : List Nat) : (keysOf F).map (·.1) = (iN F).map Sum.inl := by
  unfold keysOf iN
  rw [List.map_map, List.map_map]
  rfl
theorem nodup_lt {F : List Nat} {n : Nat} (nd : F.Nodup) (b : ∀ x ∈ F, x < n) : F.length ≤ n := by
  have := nat_nodup_len F (List.range n) nd fun x hx => List.mem_range.mpr (b x hx)
  rwa [List.length_range] at this
/-- what holds between two turns of the search -/
structure Hunt (C : Chart) (S F W : List Nat) : Prop where
  nd : F.Nodup
  lt : ∀ b ∈ F, b < C.n
  fair : ∀ b ∈ F, ∃ a ∈ S, Reach C.roads C.wished a b
  wait : ∀ x ∈ W, x ∈ S ∨ (x ∈ F ∧ x ∉ C.wished)
structure Done (C : Chart) (S F W : List Nat) (off : Nat → Prop) : Prop where
  ok : ∀ x, (x ∈ S ∨ (x ∈ F ∧ x ∉ C.wished)) → x ∈ W ∨ off x ∨ ∀ b, (x, b) ∈ C.roads → b ∈ F
theorem hunt_end {C : Chart} {S F : List Nat} (h : Hunt C S F []) (d : Done C S F [] fun _ => False) : ∀ x, x ∈ F ↔ x < C.n ∧ ∃ a ∈ S, Reach C.roads C.wished a x := by
  intro x
  constructor
  · intro m
    exact ⟨h.lt x m, h.fair x m⟩
  · rintro ⟨_, a, ha, r⟩
    have all : ∀ y, (y ∈ S ∨ (y ∈ F ∧ y ∉ C.wished)) → ∀ b, (y, b) ∈ C.roads → b ∈ F := by
      intro y hy
      rcases d.ok y hy with z | z | z
      · exact absurd z List.not_mem_nil
      · exact z.elim
      · exact z
    exact r.within (S := (· ∈ F)) (fun y hy => all a (.inl ha) y hy) fun y z hy hw hz => all y (.inr ⟨hy, hw⟩) z hz
section
variable {P : Program} {w : World} {K : PySem.W.Frag} {mg : Str → Option Value} {base : Heap} {t1 t2 : Tok}
/-! ### reached -/
def hungry (n : Nat) (d wt : Addr) (H : Hp) : Nat := match H d, H wt with
  | some (.dK kvs), some (.lst ws) => 2 * (n - kvs.length) + ws.length
  | _, _ => 0
theorem hungry_is {n : Nat} {d wt : Addr} {H : Hp} {kvs : List (Key × V)} {ws : List V} (h1 : H d = some (.dK kvs)) (h2 : H wt = some (.lst ws)) : hungry n d wt H = 2 * (n - kvs.length) + ws.length := by
  unfold hungry
  rw [h1, h2]
def sp_reached (K : PySem.W.Frag) : Sp := fun vs H Q _ => ∃ (c st : Addr) (C : Chart) (S : List Nat), vs = [.ref c, .ref st] ∧ IsChart K H c C ∧ C.Ok ∧ SqT K H st (S.map vN) ∧ (∀ a ∈ S, a < C.n) ∧ S.length ≤ 60 ∧
  ∀ q H', Same H H' → H q = none → H' q = some (.lst ((met C.n C.roads C.wished S).map vN)) → Q (.ref q) H'
end
end Ft

set_option Elab.async false
set_option linter.all false
set_option maxRecDepth 100000
set_option maxHeartbeats 4000000
namespace Ft
open PySem PySem.Spec PyProof.Rows L2
/-- the unwished places that some place of S comes to -/
noncomputable def metU (C : Chart) (S : List Nat) : List Nat := those C.n fun b => b ∉ C.wished ∧ ∃ a ∈ S, Reach C.roads C.wished a b
/-- the piece of a place -/
noncomputable def pieceOf (C : Chart) (a : Nat) : List Nat := if a ∈ C.wished then [a] else those C.n fun b => b ∉ C.wished ∧ (b = a ∨ (Reach C.roads C.wished a b ∧ Reach C.roads C.wished b a))
theorem unw_mem {C : Chart} {a : Nat} : a ∈ unw C ↔ a < C.n ∧ a ∉ C.wished := by
  unfold unw
  simp [List.mem_filter]
theorem unw_up (C : Chart) : (unw C).Pairwise (· < ·) := (range_up C.n).filter _
theorem unw_len (C : Chart) : (unw C).length ≤ C.n := by
  have := List.length_filter_le (fun a => !decide (a ∈ C.wished)) (List.range C.n)
  rwa [List.length_range] at this
theorem those_len (n : Nat) (P : Nat → Prop) : (those n P).length ≤ n := up_len (those_up n P) fun a h => (those_mem.mp h).1
/-- a dict of places, each with an object -/
def dictOf : List Nat → List Addr → List (Key × V)
  | a :: l, d :: ds => (Sum.inl (a : Int), .ref d) :: dictOf l ds
  | _, _ => []
theorem dictOf_more : ∀ (l : List Nat) (ds : List Addr) (a : Nat) (d : Addr), l.length = ds.length → dictOf (l ++ [a]) (ds ++ [d]) = dictOf l ds ++ [(Sum.inl (a : Int), .ref d)]
  | [], [], _, _, _ => rfl
  | x :: l, y :: ds, a, d, h => by
    have := dictOf_more l ds a d (Nat.succ.inj h)
    show _ :: dictOf (l ++ [a]) (ds ++ [d]) = _ :: (dictOf l ds ++ _)
    rw [this]
  | [], _ :: _, _, _, h => nomatch h
  | _ :: _, [], _, _, h => nomatch h
theorem dictOf_len : ∀ (l : List Nat) (ds : List Addr), l.length = ds.length → (dictOf l ds).length = l.length
  | [], [], _ => rfl
  | x :: l, y :: ds, h => congrArg (· + 1) (dictOf_len l ds (Nat.succ.inj h))
  | [], _ :: _, h => nomatch h
  | _ :: _, [], h => nomatch h
theorem dictOf_none : ∀ (l : List Nat) (ds : List Addr) (x : Nat), x ∉ l → valV (dictOf l ds) (Sum.inl (x : Int) : Key) = none
  | [], _, _, _ => by simp [dictOf, valV]
  | _ :: _, [], _, _ => by simp [dictOf, valV]
  | a :: l, d :: ds, x, h => by
    have ih := dictOf_none l ds x fun m => h (List.mem_cons_of_mem _ m)
    unfold valV at ih ⊢
    show ((((Sum.inl (a : Int) : Key), V.ref d) :: dictOf l ds).find? fun kv => decide (kv.1 = Sum.inl (x : Int))).map (·.2) = none
    rw [List.find?_cons]
    have e : decide (((Sum.inl (a : Int) : Key)) = Sum.inl (x : Int)) = false := by
      refine decide_eq_false fun q => h ?_
      have := Sum.inl.inj q
      have : a = x := by omega
      rw [this]
      exact List.mem_cons_self
    simp only [e]
    exact ih
theorem dictOf_val : ∀ (l : List Nat) (ds : List Addr) (i x : Nat) (d : Addr), l.Nodup → l[i]? = some x → ds[i]? = some d → valV (dictOf l ds) (Sum.inl (x : Int) : Key) = some (.ref d)
  | [], _, _, _, _, _, h, _ => by simp at h
  | _ :: _, [], _, _, _, _, _, h => by simp at h
  | a :: l, e :: ds, 0, x, d, _, h1, h2 => by
    simp at h1 h2
    subst h1 h2
    unfold valV
    show ((((Sum.inl (a : Int) : Key), V.ref e) :: dictOf l ds).find? fun kv => decide (kv.1 = Sum.inl (a : Int))).map (·.2) = some (.ref e)
    rw [List.find?_cons]
    simp
  | a :: l, e :: ds, i + 1, x, d, nd, h1, h2 => by
    obtain ⟨n1, n2⟩ := List.nodup_cons.mp nd
    have ih := dictOf_val l ds i x d n2 (by simpa using h1) (by simpa using h2)
    have hx : x ∈ l := List.mem_of_getElem? (by simpa using h1 : l[i]? = some x)
    unfold valV at ih ⊢
    show ((((Sum.inl (a : Int) : Key), V.ref e) :: dictOf l ds).find? fun kv => decide (kv.1 = Sum.inl (x : Int))).map (·.2) = some (.ref d)
    rw [List.find?_cons]
    have e2 : decide (((Sum.inl (a : Int) : Key)) = Sum.inl (x : Int)) = false := by
      refine decide_eq_false fun q => n1 ?_
      have := Sum.inl.inj q
      have : a = x := by omega
      rw [this]
      exact hx
    simp only [e2]
    exact ih
section
variable {P : Program} {w : World} {K : PySem.W.Frag} {mg : Str → Option Value} {base : Heap} {t1 t2 : Tok}
/-! ### reached_unwished -/
def sp_reached_unwished (K : PySem.W.Frag) : Sp := fun vs H Q _ => ∃ (c st : Addr) (C : Chart) (S : List Nat), vs = [.ref c, .ref st] ∧ IsChart K H c C ∧ C.Ok ∧ SqT K H st (S.map vN) ∧ (∀ a ∈ S, a < C.n) ∧ S.length ≤ 60 ∧
  ∀ q H', Same H H' → H q = none → H' q = some (.lst ((metU C S).map vN)) → Q (.ref q) H'
end
end Ft

set_option Elab.async false
set_option linter.all false
set_option maxRecDepth 100000
set_option maxHeartbeats 8000000
namespace Ft
open PySem PySem.Spec PyProof.Rows L2
section
variable {P : Program} {w : World} {K : PySem.W.Frag} {mg : Str → Option Value} {base : Heap} {t1 t2 : Tok}
/-! ### piece_table -/
/-- the pieces at the addresses rows -/
def PiecesAt (K : PySem.W.Frag) (H : Hp) (C : Chart) (rows : List Addr) : Prop := rows.length = C.n ∧ ∀ x t, rows[x]? = some t → SqT K H t ((pieceOf C x).map vN)
theorem piece_filter {C : Chart} {a : Nat} (ha : a < C.n) (hw : a ∉ C.wished) : (unw C).filter (fun b => decide (a = b) || (decide (b ∈ metU C [a]) && decide (a ∈ metU C [b]))) = pieceOf C a := by
  unfold pieceOf
  rw [if_neg hw]
  refine those_is ((unw_up C).filter _) fun x => ?_
  rw [List.mem_filter, unw_mem]
  unfold metU
  simp only [Bool.or_eq_true, Bool.and_eq_true, decide_eq_true_eq, those_mem, List.mem_singleton, exists_eq_left]
  constructor
  · rintro ⟨⟨h1, h2⟩, h3⟩
    refine ⟨h1, h2, ?_⟩
    rcases h3 with e | ⟨⟨_, _, r1⟩, ⟨_, _, r2⟩⟩
    · exact .inl e.symm
    · exact .inr ⟨r1, r2⟩
  · rintro ⟨h1, h2, h3⟩
    refine ⟨⟨h1, h2⟩, ?_⟩
    rcases h3 with e | ⟨r1, r2⟩
    · exact .inl e.symm
    · exact .inr ⟨⟨h1, h2, r1⟩, ⟨ha, hw, r2⟩⟩
def sp_piece_table (K : PySem.W.Frag) : Sp := fun vs H Q _ => ∃ (c : Addr) (C : Chart), vs = [.ref c] ∧ IsChart K H c C ∧ C.Ok ∧ ∀ q rows H', Same H H' → H q = none → H' q = some (.lst (rows.map V.ref)) → PiecesAt K H' C rows → Q (.ref q) H'
end
end Ft

set_option Elab.async false
set_option linter.all false
set_option maxRecDepth 100000
set_option maxHeartbeats 8000000
namespace Ft
open PySem PySem.Spec PyProof.Rows L2
theorem piece_self {C : Chart} {a : Nat} (h : a < C.n) : a ∈ pieceOf C a := by
  unfold pieceOf
  by_cases hw : a ∈ C.wished
  · rw [if_pos hw]
    exact List.mem_singleton.mpr rfl
  · rw [if_neg hw]
    exact those_mem.mpr ⟨h, hw, .inl rfl⟩
theorem piece_up (C : Chart) (a : Nat) : (pieceOf C a).Pairwise (· < ·) := by
  unfold pieceOf
  by_cases hw : a ∈ C.wished
  · rw [if_pos hw]
    exact List.pairwise_singleton _ _
  · rw [if_neg hw]
    exact those_up _ _
theorem piece_lt {C : Chart} {a b : Nat} (ha : a < C.n) (h : b ∈ pieceOf C a) : b < C.n := by
  unfold pieceOf at h
  by_cases hw : a ∈ C.wished
  · rw [if_pos hw] at h
    rw [List.mem_singleton.mp h]
    exact ha
  · rw [if_neg hw] at h
    exact (those_mem.mp h).1
/-- rows of places at the addresses ts -/
def RowsAt (K : PySem.W.Frag) (H : Hp) (ts : List Addr) (lls : List (List Nat)) : Prop := Paired (fun (t : Addr) (l : List Nat) => SqT K H t (l.map vN)) ts lls
theorem RowsAt.keep {K : PySem.W.Frag} {ex : List Addr} {H H' : Hp} (k : Kp ex H H') (l : Lists ex H) {ts : List Addr} {lls : List (List Nat)} (h : RowsAt K H ts lls) : RowsAt K H' ts lls := paired_imp (fun _ _ q => k.sqT l q) h
theorem RowsAt.same {K : PySem.W.Frag} {H H' : Hp} (k : Same H H') {ts : List Addr} {lls : List (List Nat)} (h : RowsAt K H ts lls) : RowsAt K H' ts lls := paired_imp (fun _ _ q => Same.sqT k q) h
theorem paired_app {α β : Type} {R : α → β → Prop} : ∀ {as as' : List α} {bs bs' : List β}, Paired R as bs → Paired R as' bs' → Paired R (as ++ as') (bs ++ bs')
  | _, _, _, _, .nil, h => h
  | _, _, _, _, .cons r t, h => .cons r (paired_app t h)
/-- whether a place is the least one of its piece -/
noncomputable def isLeast (C : Chart) (a : Nat) : Bool := decide ((pieceOf C a).head? = some a)
noncomputable def piecesL (C : Chart) : List (List Nat) := ((unw C).filter (isLeast C)).map (pieceOf C)
section
variable {P : Program} {w : World} {K : PySem.W.Frag} {mg : Str → Option Value} {base : Heap} {t1 t2 : Tok}
end
end Ft

set_option Elab.async false
set_option linter.all false
set_option maxRecDepth 100000
set_option maxHeartbeats 8000000
namespace Ft
open PySem PySem.Spec PyProof.Rows L2
/-- the draws' pool stands at p, its further cells at l -/
def PoolAt (H : Hp) (p l : Addr) : Prop := ∃ (a b : Int) (cs : List Int), H p = some (.lst [.int a, .int b, .ref l]) ∧ H l = some (.lst (cs.map V.int)) ∧ 0 ≤ a ∧ 0 ≤ b
theorem PoolAt.ne {H : Hp} {p l : Addr} (h : PoolAt H p l) : p ≠ l := by
  obtain ⟨a, b, cs, h1, h2, _⟩ := h
  intro e
  subst e
  have z := Option.some.inj (h1.symm.trans h2)
  have z2 : ([V.int a, V.int b, V.ref p] : List V) = cs.map V.int := by injection z
  have z3 : V.ref p ∈ cs.map V.int := by rw [← z2]; simp
  obtain ⟨c, _, e⟩ := List.mem_map.mp z3
  exact nomatch e
theorem PoolAt.lists {H : Hp} {p l : Addr} (h : PoolAt H p l) : Lists [p, l] H := by
  obtain ⟨a, b, cs, h1, h2, _⟩ := h
  intro x hx
  rcases List.mem_cons.mp hx with e | hx
  · rw [e]
    exact ⟨_, h1, (fun _ z => nomatch z), (fun _ _ z => nomatch z)⟩
  · rw [List.mem_singleton.mp hx]
    exact ⟨_, h2, (fun _ z => nomatch z), (fun _ _ z => nomatch z)⟩
theorem PoolAt.same {H H' : Hp} {p l : Addr} (k : Same H H') (h : PoolAt H p l) : PoolAt H' p l := by
  obtain ⟨a, b, cs, h1, h2, h3⟩ := h
  exact ⟨a, b, cs, k _ _ h1, k _ _ h2, h3⟩
theorem PoolAt.free {H : Hp} {p l : Addr} (h : PoolAt H p l) {q : Addr} (n : H q = none) : q ∉ [p, l] := by
  obtain ⟨a, b, cs, h1, h2, _⟩ := h
  intro m
  rcases List.mem_cons.mp m with e | m
  · rw [e, h1] at n
    cases n
  · rw [List.mem_singleton.mp m, h2] at n
    cases n
theorem ints_shaped (cs : List Int) : SeqAt.shaped (.list (cs.map .int)) = true := by
  unfold SeqAt.shaped
  have h1 : ∀ cs : List Int, PyData.canLayAll0 (cs.map .int) = true := by
    intro cs
    induction cs with
    | nil => simp [PyData.canLayAll0]
    | cons c cs ih => simp [PyData.canLayAll0, PyData.canLay0, ih]
  have h2 : PyData.depth (.list (cs.map .int)) = 1 := by
    simp only [PyData.depth, PySem.W.depth_ints]
  rw [h2]
  simp [PyData.canLay0, h1]
section
variable {P : Program} {w : World} {K : PySem.W.Frag} {mg : Str → Option Value} {base : Heap} {t1 t2 : Tok}
/-! ### _law_pool -/
def sp_law_pool (K : PySem.W.Frag) : Sp := fun vs H Q _ => ∃ (a : Addr) (ns : List Int), vs = [.ref a] ∧ SqL K H a (ns.map V.int) ∧ ∀ p l H', Same H H' → H p = none → H l = none → PoolAt H' p l → Q (.ref p) H'
theorem cal_law_pool (T : Txt mg) (D : Def K mg "_law_pool" s_law_pool) : Cal P w K mg base 2 "_law_pool" (sp_law_pool K) := by
  refine cal_of D sc_law_pool (fun _ _ _ _ _ _ us hl => match us, hl with | [_], _ => rfl) (fun vs H Q E h => ?_) (fun f cdv A outer s H vs Q E hr h => ?_)
  · obtain ⟨a, ns, rfl, _⟩ := h
    rfl
  · obtain ⟨a, ns, rfl, hS, q⟩ := h
    refine ⟨_, (pss_cons (ps_set (i := 1) sc_law_pool.nd rfl (Or.inl rfl) (pe_mid (pe_ifExp (pt_cmpR op_gt (pe_callB (show CallR _ _ (rLenS K) from call_lenS) (by rfl) T.len (by decide +kernel) (pa_cons (pv 0) pa_nil)) pe_int (nomark _)) (pe_callTy call_int1 (by rfl) T.int (by decide +kernel) (pa_cons (pe_ix (show IxR _ (rIxL K) from ix_list) (pv 0) pe_int (fun _ _ => rfl)) pa_nil)) pe_int)))
      (pss_cons (ps_set (i := 2) sc_law_pool.nd rfl (Or.inl rfl) (pe_mid (pe_ifExp (pt_cmpR op_ge (pv 1) pe_int (nomark _)) (pe_op op_mul pe_int (pv 1)) (pe_op op_sub (pe_un un_neg pe_int) (pe_op op_mul pe_int (pv 1))))))
      (pss_one (ps_ret (pe_lst (pa_cons (pe_mid (pe_ifExp (pt_cmpR op_ge (pv 2) (pe_op op_pow pe_int pe_int) (nomark _)) (pv 2) pe_int)) (pa_cons (pe_op op_add (pe_op op_mod (pe_callTy call_int1 (by rfl) T.int (by decide +kernel) (pa_cons (pe_op op_add (pe_op op_mul (pv 2) pe_int) pe_int) pa_nil)) pe_int) pe_int) (pa_cons (pe_callTy (show CallR _ _ (rListOf K) from call_listOf) (by rfl) T.list (by decide +kernel) (pa_cons (pe_slice (show SlR _ (rSlL K) from sl_list) (pv 0) (po_some pe_int) po_none) pa_nil)) pa_nil)))))))), ?_⟩
    refine ⟨fun v H' => ∃ x : Int, v = .int x ∧ H' = H, ⟨_, rfl, a, _, rfl, .inl hS, _, _, rfl, rfl, _, rfl, ite_any (fun h => ?_) (fun h => ⟨0, rfl, rfl⟩)⟩, ?_⟩
    · have h0 := of_decide_eq_true h
      cases ns with
      | nil => exact absurd h0 (by simp)
      | cons n0 ns => exact ⟨_, rfl, a, _, _, _, rfl, rfl, hS, atI_nat (j := 0) (v := V.int n0) rfl, .inl ⟨_, rfl, _, rfl, rfl⟩⟩
    rintro v H1 ⟨x, rfl, rfl⟩
    refine ⟨fun v H' => ∃ x : Int, v = .int x ∧ H' = H1 ∧ 0 ≤ x, ⟨_, rfl, _, _, rfl, rfl, _, rfl, ite_any (fun h => ?_) (fun h => ?_)⟩, ?_⟩
    · have h0 := of_decide_eq_true h
      exact ⟨_, rfl, _, _, rfl, rfl, .inl ⟨by decide, by decide⟩, _, rfl, rfl, by omega⟩
    · have h0 := of_decide_eq_false h
      exact ⟨_, rfl, _, rfl, _, _, rfl, rfl, .inl ⟨by decide, by decide⟩, _, _, rfl, rfl, _, rfl, rfl, by omega⟩
    rintro v H2 ⟨y, rfl, rfl, hy⟩
    refine ⟨fun v H' => ∃ x : Int, v = .int x ∧ H' = H2 ∧ 0 ≤ x, ⟨_, rfl, _, _, rfl, rfl, ⟨by decide, by decide, by decide⟩, _, _, rfl, rfl, _, rfl, ite_any (fun h => ⟨_, rfl, y, rfl, rfl, hy⟩) (fun h => ⟨0, rfl, rfl, by decide⟩)⟩, ?_⟩
    rintro v H3 ⟨z, rfl, rfl, hz⟩
    refine ⟨_, rfl, _, _, rfl, rfl, .inr ⟨by decide, by decide⟩, _, _, rfl, rfl, .inl ⟨_, rfl, _, _, rfl, rfl, (by show (0 : Int) < 2147483629; decide), _, _, rfl, rfl, ?_⟩⟩
    refine ⟨_, rfl, _, rfl, a, _, rfl, hS, fun e he => ?_⟩
    refine ⟨e, _, rfl, .inl (.inl (.inl upd_same)), fun l hl => ?_⟩
    refine ⟨by show 3 ≤ sizeLine; decide, fun p hp => ?_⟩
    have nel : e ≠ l := ne_of_none upd_same hl
    have npl : l ≠ p := ne_of_none upd_same hp
    have hl0 : H3 l = none := by rw [upd_ne nel.symm] at hl; exact hl
    have s1 : Same H3 (upd (upd H3 e (.lst (cutV (ns.map V.int) (some 1) none))) l (.lst (cutV (ns.map V.int) (some 1) none))) := (same_upd he).trans (same_upd hl)
    refine q p l _ (s1.trans (same_upd hp)) (s1.free hp) hl0 ?_
    refine ⟨z, _, (cutV (ns.map V.int) (some 1) none).map (fun v => match v with | .int i => i | _ => 0), upd_same, ?_, hz, ?_⟩
    · rw [upd_ne npl, upd_same]
      congr 2
      rw [List.map_map]
      conv => lhs; rw [← List.map_id (cutV (ns.map V.int) (some 1) none)]
      refine List.map_congr_left fun v hv => ?_
      have : v ∈ ns.map V.int := by
        unfold cutV at hv
        exact List.mem_of_mem_drop (List.mem_of_mem_take hv)
      obtain ⟨i, _, rfl⟩ := List.mem_map.mp this
      rfl
    · have := Int.emod_nonneg (y * 48271 + 1009) (show (2147483629 : Int) ≠ 0 by decide)
      omega
/-! ### _law_draw -/
def sp_law_draw : Sp := fun vs H Q _ => ∃ (p l : Addr) (m : Nat), vs = [.ref p, vN m] ∧ PoolAt H p l ∧ 0 < m ∧ m < 1073741824 ∧ ∀ (r : Nat) H', r < m → PoolAt H' p l → Kp [p, l] H H' → Q (vN r) H'
theorem cal_law_draw (T : Txt mg) (D : Def K mg "_law_draw" s_law_draw) : Cal P w K mg base 2 "_law_draw" sp_law_draw := by
  refine cal_of D sc_law_draw (fun _ _ _ _ _ _ us hl => match us, hl with | [_, _], _ => rfl) (fun vs H Q E h => ?_) (fun f cdv A outer s H vs Q E hr h => ?_)
  · obtain ⟨p, l, m, rfl, _⟩ := h
    rfl
  · obtain ⟨p, l, m, rfl, hP, m0, m1, q⟩ := h
    have hU := hr.units
    have npl := hP.ne
    refine ⟨_, (ps_cut (ps_if (PW.pt (pw_and (pt_cmpR op_eq (pe_ix (show IxR _ (rIxL K) from ix_list) (pv 0) pe_int (fun _ _ => rfl)) pe_int (nomark _)) (pw_and1 (pt_cmpR (show OpR _ _ (rNeD K) from op_neD hU) (pe_ix (show IxR _ (rIxL K) from ix_list) (pv 0) pe_int (fun _ _ => rfl)) (pe_lst pa_nil) (nomark _))))) (pss_cons (ps_set (i := 2) sc_law_draw.nd rfl (Or.inl rfl) (pe_callTy call_int1 (by rfl) T.int (by decide +kernel) (pa_cons (pe_bm PySem.F.plainAttrs_list PySem.F.slot_list_pop PySem.F.type_list_pop mt_popAt (pe_ix (show IxR _ (rIxL K) from ix_list) (pv 0) pe_int (fun _ _ => rfl)) (pa_cons pe_int pa_nil)) pa_nil)))
        (pss_cons (ps_set (i := 3) sc_law_draw.nd rfl (Or.inl rfl) (pe_mid (pe_ifExp (pt_cmpR op_ge (pv 2) pe_int (nomark _)) (pe_op op_mul pe_int (pv 2)) (pe_op op_sub (pe_un un_neg pe_int) (pe_op op_mul pe_int (pv 2))))))
        (pss_cons (ps_asg (pe_mid (pe_ifExp (pt_cmpR op_ge (pv 3) (pe_op op_pow pe_int pe_int) (nomark _)) (pv 3) pe_int)) (pg_sub (pv 0) pe_int set_list))
        (pss_one (ps_asg (pe_op op_add (pe_op op_mod (pe_callTy call_int1 (by rfl) T.int (by decide +kernel) (pa_cons (pe_op op_add (pe_ix (show IxR _ (rIxL K) from ix_list) (pv 0) pe_int (fun _ _ => rfl)) (pe_op op_mul (pv 3) pe_int)) pa_nil)) pe_int) pe_int) (pg_sub (pv 0) pe_int set_list)))))) pss_nil)
      (pss_cons (ps_if (pt_cmpR op_gt (pe_ix (show IxR _ (rIxL K) from ix_list) (pv 0) pe_int (fun _ _ => rfl)) pe_int (nomark _)) (pss_cons (ps_set (i := 4) sc_law_draw.nd rfl (Or.inl rfl) (pe_op op_mod (pe_callTy call_int1 (by rfl) T.int (by decide +kernel) (pa_cons (pe_ix (show IxR _ (rIxL K) from ix_list) (pv 0) pe_int (fun _ _ => rfl)) pa_nil)) (pv 1)))
        (pss_cons (ps_asg (pe_op op_fdiv (pe_ix (show IxR _ (rIxL K) from ix_list) (pv 0) pe_int (fun _ _ => rfl)) (pv 1)) (pg_sub (pv 0) pe_int set_list))
        (pss_one (ps_ret (pv 4))))) pss_nil)
      (pss_cons (ps_asg (pe_op op_mod (pe_callTy call_int1 (by rfl) T.int (by decide +kernel) (pa_cons (pe_op op_add (pe_op op_mul (pe_ix (show IxR _ (rIxL K) from ix_list) (pv 0) pe_int (fun _ _ => rfl)) pe_int) pe_int) pa_nil)) pe_int) (pg_sub (pv 0) pe_int set_list))
      (pss_one (ps_ret (pe_op op_mod (pe_op op_fdiv (pe_op op_mod (pe_callTy call_int1 (by rfl) T.int (by decide +kernel) (pa_cons (pe_op op_mul (pe_ix (show IxR _ (rIxL K) from ix_list) (pv 0) pe_int (fun _ _ => rfl)) (pe_ix (show IxR _ (rIxL K) from ix_list) (pv 0) pe_int (fun _ _ => rfl))) pa_nil)) pe_int) pe_int) (pv 1))))))), ?_⟩
    refine ⟨fun σ' H' => ∃ v2 v3 : Option V, σ' = [some (.ref p), some (vN m), v2, v3, none] ∧ PoolAt H' p l ∧ Kp [p, l] H H', ?_, ?_⟩
    · obtain ⟨a, b, cs, h1, h2, ha, hb⟩ := id hP
      refine ⟨_, rfl, p, _, _, _, rfl, rfl, .inl (.inl h1), rfl, rfl, _, rfl, ite_any (fun _ => ?_) (fun _ => ?_)⟩
      · refine ⟨_, rfl, p, _, _, _, rfl, rfl, .inl (.inl h1), rfl, Nat.zero_le _, fun e he => ?_⟩
        have s1 : Same H (upd H e (.lst [])) := same_upd he
        have nep : p ≠ e := ne_of_none h1 he
        have nel : l ≠ e := ne_of_none h2 he
        have h1' := s1 _ _ h1
        have h2' := s1 _ _ h2
        refine ⟨.list (cs.map .int), .list [], .lst (.inl (.inl h2')) (dpAll_ints cs), .lst (.inl (.inl upd_same)) .nil, ints_shaped cs, rfl, _, rfl, ite_any (fun hc => ?_) (fun _ => ?_)⟩
        · cases cs with
          | nil => exact absurd hc (by decide)
          | cons c cs =>
            have n1 : (-(2 ^ 63) : Int) ≤ 0 := by decide
            have n2 : (0 : Int) < 2 ^ 63 := by decide
            refine ⟨_, rfl, p, _, _, _, rfl, rfl, .inl (.inl h1'), rfl, .inl ⟨rfl, _, .inl (.inl h2')⟩, l, _, 0, 0, .int c, rfl, rfl, h2', n1, n2, ?_, rfl, .inl ⟨_, rfl, ?_⟩⟩
            · simp [seqIndex?]
            have h1b : (upd (upd H e (.lst [])) l (.lst ((List.map V.int (c :: cs)).eraseIdx 0))) p = some (.lst [.int a, .int b, .ref l]) := by rw [upd_ne npl]; exact h1'
            obtain ⟨Hc, eHc⟩ : ∃ Hc, Hc = upd (upd H e (.lst [])) l (.lst ((List.map V.int (c :: cs)).eraseIdx 0)) := ⟨_, rfl⟩
            rw [← eHc] at h1b ⊢
            refine ⟨fun v H' => ∃ x : Int, v = .int x ∧ H' = Hc ∧ 0 ≤ x, ⟨_, rfl, _, _, rfl, rfl, _, rfl, ite_any (fun h => ?_) (fun h => ?_)⟩, ?_⟩
            · have h0 := of_decide_eq_true h
              exact ⟨_, rfl, _, _, rfl, rfl, .inl ⟨by decide, by decide⟩, _, rfl, rfl, by omega⟩
            · have h0 := of_decide_eq_false h
              exact ⟨_, rfl, _, rfl, _, _, rfl, rfl, .inl ⟨by decide, by decide⟩, _, _, rfl, rfl, _, rfl, rfl, by omega⟩
            rintro v H2 ⟨y, rfl, rfl, hy⟩
            refine ⟨fun v H' => ∃ x : Int, v = .int x ∧ H' = H2 ∧ 0 ≤ x, ⟨_, rfl, _, _, rfl, rfl, ⟨by decide, by decide, by decide⟩, _, _, rfl, rfl, _, rfl, ite_any (fun h => ⟨_, rfl, y, rfl, rfl, hy⟩) (fun h => ⟨0, rfl, rfl, by decide⟩)⟩, ?_⟩
            rintro v H3 ⟨z, rfl, rfl, hz⟩
            subst eHc
            refine ⟨_, rfl, p, _, _, 0, rfl, rfl, h1b, rfl, ?_⟩
            refine ⟨_, rfl, p, _, _, _, rfl, rfl, .inl (.inl upd_same), rfl, _, rfl, _, _, rfl, rfl, .inr ⟨by decide, by decide⟩, _, _, rfl, rfl, .inl ⟨_, rfl, _, _, rfl, rfl, (by show (0 : Int) < 2147483629; decide), _, _, rfl, rfl, ?_⟩⟩
            refine ⟨_, rfl, p, _, _, 1, rfl, rfl, upd_same, rfl, ?_⟩
            refine ⟨_, _, rfl, ⟨z, _, cs, upd_same, ?_, hz, ?_⟩, ?_⟩
            · rw [upd_ne npl.symm, upd_ne npl.symm, upd_same]
              rfl
            · have := Int.emod_nonneg (b + y * 69621) (show (2147483629 : Int) ≠ 0 by decide)
              omega
            · intro b' o n e'
              have n1 : b' ≠ p := fun z => n (by rw [z]; simp)
              have n2 : b' ≠ l := fun z => n (by rw [z]; simp)
              rw [upd_ne n1, upd_ne n1, upd_ne n2]
              exact s1 _ _ e'
        · exact ⟨_, _, rfl, hP.same s1, Same.kp s1⟩
      · exact ⟨_, _, rfl, hP, Kp.refl _ _⟩
    · rintro σ' H1 ⟨v2, v3, rfl, ⟨a, b, cs, h1, h2, ha, hb⟩, k1⟩
      refine ⟨_, rfl, p, _, _, _, rfl, rfl, .inl (.inl h1), rfl, _, _, rfl, rfl, _, rfl, ite_any (fun hc => ?_) (fun hc => ?_)⟩
      · refine ⟨_, rfl, p, _, _, _, rfl, rfl, .inl (.inl h1), rfl, .inl ⟨_, rfl, _, rfl, _, _, rfl, rfl, (by show (0 : Int) < (m : Int); omega), ?_⟩⟩
        refine ⟨_, rfl, p, _, _, _, rfl, rfl, .inl (.inl h1), rfl, _, rfl, _, _, rfl, rfl, ⟨by show (0 : Int) < (m : Int); omega, by show (m : Int) < 1073741824; omega⟩, ?_⟩
        refine ⟨_, rfl, p, _, _, 0, rfl, rfl, h1, rfl, ?_⟩
        have h3 := Int.emod_nonneg a (show (m : Int) ≠ 0 by omega)
        have h4 := Int.emod_lt_of_pos a (show (0 : Int) < m by omega)
        refine ⟨_, rfl, ?_⟩
        have e0 : V.int (a % (m : Int)) = vN (a % (m : Int)).toNat := by
          unfold vN
          rw [Int.toNat_of_nonneg h3]
        show Q (V.int (a % (m : Int))) _
        rw [e0]
        refine q _ _ (by omega) ⟨a / m, b, cs, upd_same, by rw [upd_ne npl.symm]; exact h2, Int.ediv_nonneg ha (by omega), hb⟩ ?_
        intro b' o n e'
        rw [upd_ne (fun z => n (by rw [z]; simp))]
        exact k1 _ _ n e'
      · refine ⟨_, rfl, p, _, _, _, rfl, rfl, .inl (.inl h1), rfl, _, _, rfl, rfl, .inr ⟨by decide, by decide⟩, _, _, rfl, rfl, .inl ⟨_, rfl, _, _, rfl, rfl, (by show (0 : Int) < 2147483647; decide), ?_⟩⟩
        refine ⟨_, rfl, p, _, _, 1, rfl, rfl, h1, rfl, ?_⟩
        have h3 := Int.emod_nonneg (b * 48271 + 11) (show (2147483647 : Int) ≠ 0 by decide)
        have h4 := Int.emod_lt_of_pos (b * 48271 + 11) (show (0 : Int) < 2147483647 by decide)
        refine ⟨_, rfl, p, _, _, _, rfl, rfl, .inl (.inl upd_same), rfl, _, rfl, p, _, _, _, rfl, rfl, .inl (.inl upd_same), rfl, _, _, rfl, rfl, .inl ⟨by omega, by omega⟩, .inl ⟨_, rfl, _, _, rfl, rfl, (by show (0 : Int) < 2147483629; decide), ?_⟩⟩
        refine ⟨_, _, rfl, rfl, ⟨by decide, by decide⟩, _, rfl, _, _, rfl, rfl, (by show (0 : Int) < (m : Int); omega), ?_⟩
        have h5 := Int.emod_nonneg ((b * 48271 + 11) % 2147483647 * ((b * 48271 + 11) % 2147483647) % 2147483629 / 32) (show (m : Int) ≠ 0 by omega)
        have h6 := Int.emod_lt_of_pos ((b * 48271 + 11) % 2147483647 * ((b * 48271 + 11) % 2147483647) % 2147483629 / 32) (show (0 : Int) < m by omega)
        show Q (V.int (((b * 48271 + 11) % 2147483647 * ((b * 48271 + 11) % 2147483647) % 2147483629 / 32) % (m : Int))) _
        generalize ((b * 48271 + 11) % 2147483647 * ((b * 48271 + 11) % 2147483647) % 2147483629 / 32) % (m : Int) = z at h5 h6 ⊢
        have e0 : V.int z = vN z.toNat := by
          unfold vN
          rw [Int.toNat_of_nonneg h5]
        rw [e0]
        refine q _ _ (by omega) ⟨a, (b * 48271 + 11) % 2147483647, cs, upd_same, by rw [upd_ne npl.symm]; exact h2, ha, h3⟩ ?_
        intro b' o n e'
        rw [upd_ne (fun z => n (by rw [z]; simp))]
        exact k1 _ _ n e'
end
end Ft

set_option Elab.async false
set_option linter.all false
set_option maxRecDepth 100000
set_option maxHeartbeats 4000000
/-! isinstance of the error that a suite holds, whose class is known only then and which has a dict of its own. -/
namespace Ft
open PySem PySem.Spec PyProof.Rows L2
/-- what a class says so that isinstance asks its errors rightly -/
structure IsC (K : PySem.W.Frag) (C : Addr) : Prop where
  cl : (PySem.W.clsIn K C).isSome = true
  ga : PySem.W.findIn K (.ref C) "__getattribute__" = some (some (.builtin "BaseException.__getattribute__"))
  gg : PySem.W.findIn K (.ref C) "__getattr__" = some none
  ex : PySem.W.subIn K (.ref C) (.type "BaseException") = some true
  ha : PySem.W.findIn K (.ref C) "__class__" = some (some (.builtin "object.__class__"))
  hn : PySem.W.specialIn K (.builtin "object.__class__") "__get__" = some (some (.builtin "getset_descriptor.__get__"))
  ht : PySem.W.takesIn K (.builtin "object.__class__") = some true
  hm : PySem.W.mroIn K C (.type "object") = some true
def rIsX (K : PySem.W.Frag) (a : Addr) (cls : Value) (d : Option Addr) (cv : Value) : List V → Hp → VK → Prop := fun xs H Q => ∃ (c : V) (b : Bool) (C dd : Addr) (v : V), xs = [.ref a, c] ∧ (∀ u, RelV c u → u = cv) ∧ cls = .ref C ∧ IsC K C ∧ d = some dd ∧ H dd = some (.xd [("what", v)]) ∧ PySem.W.kitOne K (.ref C) cv = some b ∧ Q (.bl b) H
theorem call_isX {X : Cx} {a : Addr} {oe : Obj} {cls : Value} {d : Option Addr} {cv : Value} {pn : List (Addr × Obj)} (hz : Zc cls d oe) (hf : ∃ vs, oe.data = .fields vs) : CallR (X.suite a ((a, oe) :: pn)) (.builtin "isinstance") (rIsX X.K a cls d cv) := by
  intro pins s σ H xs us Q I r h
  obtain ⟨c, b, C, dd, v, rfl, hcv, rfl, ic, rfl, hdd, e, q⟩ := h
  cases r with
  | cons rx rr =>
    cases rr with
    | cons rt rr =>
      cases rr
      cases rx
      have ec := hcv _ rt
      subst ec
      obtain ⟨ha, _⟩ := I.pin (a, oe) (List.mem_append_left _ List.mem_cons_self)
      obtain ⟨vs, hd⟩ := hf
      have hx : ObjOk X.prog X.w H s.heap dd (.xd [("what", v)]) := I.hok dd _ hdd
      obtain ⟨mA, hns, hr⟩ := hx
      obtain ⟨od, ho, hl⟩ := lookIn_ns hns
      have J : PySem.W.InstAt s.heap a oe C (some od) := ⟨ha, hz.1, by unfold PySem.W.notCls; rw [hd] <;> rfl, by rw [hz.2]; exact ho⟩
      exact PySem.W.kia_one (PySem.W.kitx_exc ic.cl ic.ga ic.gg ic.ex ic.ha ic.hn ic.ht ic.hm) I.kIn J e (fun z => nomatch z) fun tk => ⟨.bl b, H, I.kept (t' := tk) fun _ _ z => z, rfl, q⟩
/-- an error of class c is one of class d, too; of the builtin one d -/
def Kit (K : PySem.W.Frag) (ca : Str → Addr) (c d : Str) : Prop := PySem.W.kitOne K (.ref (ca c)) (.ref (ca d)) = some true
def KitB (K : PySem.W.Frag) (ca : Str → Addr) (c : Str) (d : String) : Prop := PySem.W.kitOne K (.ref (ca c)) (.type d) = some true
end Ft

set_option Elab.async false
set_option linter.all false
set_option maxRecDepth 100000
set_option maxHeartbeats 4000000
namespace Ft
open PySem PySem.Spec PyProof.Rows L2
/-! x in t, t a tuple of data of any depth; t[i], t a list or a tuple; a class as a value -/
def rInTD (K : PySem.W.Frag) : R2 := fun x y H Q => ∃ d ds, Dp K H x d ∧ Dp K H y (.tuple ds) ∧ SeqAt.shaped d = true ∧ SeqAt.shaped (.tuple ds) = true ∧ Q (.bl (ds.any fun z => PyData.eqv z d)) H
def rNotInTD (K : PySem.W.Frag) : R2 := fun x y H Q => ∃ d ds, Dp K H x d ∧ Dp K H y (.tuple ds) ∧ SeqAt.shaped d = true ∧ SeqAt.shaped (.tuple ds) = true ∧ Q (.bl (!ds.any fun z => PyData.eqv z d)) H
theorem op_inTD {X : Cx} (hu : X.A.units + 65 < cLine) : OpR X (compareOp .In) (rInTD X.K) := by
  intro pins s σ H x y v u Q I rx ry h
  obtain ⟨d, ds, hd, he, sd, se, q⟩ := h
  obtain ⟨as, r1⟩ := Dp.reads I d x v hd rx
  obtain ⟨bs, r2⟩ := Dp.reads I (.tuple ds) y u he ry
  exact SeqAt.in_tuple_reads r2 r1 (SeqAt.canLay_of_shaped se) (SeqAt.canLay_of_shaped sd) (room_in_shaped sd hu) ⟨.bl _, H, I, rfl, q⟩
theorem op_notInTD {X : Cx} (hu : X.A.units + 65 < cLine) : OpR X (compareOp .NotIn) (rNotInTD X.K) := by
  intro pins s σ H x y v u Q I rx ry h
  obtain ⟨d, ds, hd, he, sd, se, q⟩ := h
  obtain ⟨as, r1⟩ := Dp.reads I d x v hd rx
  obtain ⟨bs, r2⟩ := Dp.reads I (.tuple ds) y u he ry
  exact SeqAt.notIn_tuple_reads r2 r1 (SeqAt.canLay_of_shaped se) (SeqAt.canLay_of_shaped sd) (room_in_shaped sd hu) ⟨.bl _, H, I, rfl, q⟩
def rIxA (K : PySem.W.Frag) : R2 := fun x y H Q => rIxL K x y H Q ∨ rIxT K x y H Q
theorem ix_any {X : Cx} : IxR X (rIxA X.K) := fun value slice pins s σ H x y v u Q I rx ry h hs => h.elim (fun h => ix_list value slice pins s σ H x y v u Q I rx ry h hs) (fun h => ix_tup value slice pins s σ H x y v u Q I rx ry h hs)
theorem pe_globC {X : Cx} {x : Str} {C : Addr} {pos : Pos} (hg : Gl X x) (h : X.mg x = some (.ref C)) (hd : (x == ("__debug__" : Str)) = false := by decide) : PE X (.Name x pos) (tC (.ref C)) := pe_glob (v := .ref C) hg h rfl hd
end Ft

set_option Elab.async false
set_option linter.all false
set_option maxRecDepth 100000
set_option maxHeartbeats 8000000
namespace Ft
open PySem PySem.Spec PyProof.Rows L2
theorem seqIndex_nat {r n : Nat} (h : r < n) : seqIndex? (r : Int) n = some r := by
  unfold seqIndex?
  have h0 : ¬ ((r : Int) < 0) := by omega
  have h1 : (r : Int) < n := by omega
  have h2 : (0 : Int) ≤ (r : Int) := by omega
  simp [h0, h1, h2]
theorem map_erase {α β : Type} (f : α → β) : ∀ (l : List α) (i : Nat), (l.map f).eraseIdx i = (l.eraseIdx i).map f
  | [], _ => rfl
  | _ :: _, 0 => rfl
  | a :: l, i + 1 => congrArg (f a :: ·) (map_erase f l i)
theorem cons_erase {α : Type} : ∀ {l : List α} {r : Nat} {x : α}, l[r]? = some x → (x :: l.eraseIdx r).Perm l
  | [], _, _, h => by simp at h
  | a :: l, 0, x, h => by
    have e : a = x := by simpa using h
    rw [e]
    exact List.Perm.refl _
  | a :: l, r + 1, x, h => (List.Perm.swap a x (l.eraseIdx r)).trans ((cons_erase (l := l) (r := r) (by simpa using h)).cons a)
theorem rgV_nat (n : Nat) : rgV 0 (n : Int) = (List.range n).map vN := by
  unfold rgV
  have e : ((n : Int) - 0).toNat = n := by omega
  rw [e]
  refine List.map_congr_left fun i _ => ?_
  show V.int (0 + (i : Int)) = V.int (i : Int)
  rw [Int.zero_add]
section
variable {P : Program} {w : World} {K : PySem.W.Frag} {mg : Str → Option Value} {base : Heap} {t1 t2 : Tok}
/-! ### _law_pick, of a list or a tuple -/
def sp_law_pick (K : PySem.W.Frag) : Sp := fun vs H Q _ => ∃ (p l t : Addr) (xs : List V), vs = [.ref p, .ref t] ∧ PoolAt H p l ∧ ((SqL K H t xs ∧ t ∉ [p, l]) ∨ SqT K H t xs) ∧ 0 < xs.length ∧ xs.length < 1073741824 ∧ ∀ x H', x ∈ xs → PoolAt H' p l → Kp [p, l] H H' → Q x H'
theorem cal_law_pick (T : Txt mg) (D : Def K mg "_law_pick" s_law_pick) (c_law_draw : Cal P w K mg base 2 "_law_draw" sp_law_draw) : Cal P w K mg base 3 "_law_pick" (sp_law_pick K) := by
  refine cal_of D sc_law_pick (fun _ _ _ _ _ _ us hl => match us, hl with | [_, _], _ => rfl) (fun vs H Q E h => ?_) (fun f cdv A outer s H vs Q E hr h => ?_)
  · obtain ⟨p, l, t, xs, rfl, _⟩ := h
    rfl
  · obtain ⟨p, l, t, xs, rfl, hP, hT, n0, n1, q⟩ := h
    refine ⟨_, (pss_one (ps_ret (pe_ix (show IxR _ (rIxA K) from ix_any) (pv 1) (pe_c c_law_draw hr (by decide) (by rfl) (pa_cons (pv 0) (pa_cons (pe_callB (show CallR _ _ (rLenS K) from call_lenS) (by rfl) T.len (by decide +kernel) (pa_cons (pv 1) pa_nil)) pa_nil))) (fun _ _ => rfl)))), ?_⟩
    refine ⟨_, rfl, _, rfl, _, rfl, t, xs, rfl, hT.elim (fun h => .inl h.1) .inr, p, l, xs.length, rfl, hP, n0, n1, fun r H1 hr1 hP1 k1 => ?_⟩
    rcases hT with ⟨hT, off⟩ | hT
    · exact .inl ⟨t, xs, (r : Int), _, rfl, rfl, k1.sqL off hT, atI_nat (List.getElem?_eq_getElem hr1), q _ _ (List.getElem_mem hr1) hP1 k1⟩
    · exact .inr ⟨t, xs, (r : Int), _, rfl, rfl, k1.sqT hP.lists hT, atI_nat (List.getElem?_eq_getElem hr1), q _ _ (List.getElem_mem hr1) hP1 k1⟩
/-! ### _law_turned -/
def sp_law_turned (K : PySem.W.Frag) : Sp := fun vs H Q _ => ∃ (p l : Addr) (m : Nat), vs = [.ref p, vN m] ∧ PoolAt H p l ∧ m ≤ 1000 ∧ ∀ (q : Addr) (perm : List Nat) (H' : Hp), perm.Perm (List.range m) → H q = none → H' q = some (.lst (perm.map vN)) → PoolAt H' p l → Kp [p, l] H H' → Q (.ref q) H'
theorem cal_law_turned (T : Txt mg) (D : Def K mg "_law_turned" s_law_turned) (c_law_draw : Cal P w K mg base 2 "_law_draw" sp_law_draw) : Cal P w K mg base 3 "_law_turned" (sp_law_turned K) := by
  refine cal_of D sc_law_turned (fun _ _ _ _ _ _ us hl => match us, hl with | [_, _], _ => rfl) (fun vs H Q E h => ?_) (fun f cdv A outer s H vs Q E hr h => ?_)
  · obtain ⟨p, l, m, rfl, _⟩ := h
    rfl
  · obtain ⟨p, l, m, rfl, hP, m1, q⟩ := h
    refine ⟨_, (pss_cons (ps_par (i := 2) (j := 3) (by rfl) sc_law_turned.nd rfl rfl (by decide) rfl rfl (pa_cons (pe_listRg rfl (by rfl) T.list (prg_1 (by rfl) T.range (pv 1))) (pa_cons (pe_lst pa_nil) pa_nil)) (by rfl))
      (pss_cons (ps_for PassesOwn.never rfl (pi_range1 (by rfl) T.range (pa_cons (pv 1) pa_nil)) (pg_name (i := 4) sc_law_turned.nd rfl (Or.inl rfl)) (pss_one (ps_expr (pe_bm PySem.F.plainAttrs_list PySem.F.slot_list_append PySem.F.type_list_append mt_append (pv 3) (pa_cons (pe_bm PySem.F.plainAttrs_list PySem.F.slot_list_pop PySem.F.type_list_pop mt_popAt (pv 2) (pa_cons (pe_c c_law_draw hr (by decide) (by rfl) (pa_cons (pv 0) (pa_cons (pe_callB (show CallR _ _ (rLenS K) from call_lenS) (by rfl) T.len (by decide +kernel) (pa_cons (pv 2) pa_nil)) pa_nil))) pa_nil)) pa_nil)))))
      (pss_one (ps_ret (pv 3))))), ?_⟩
    refine ⟨_, rfl, _, rfl, .of_le (by omega) (by omega) (by omega) (by omega), fun a ha => ?_⟩
    have s1 : Same H (upd H a (.lst (rgV 0 (m : Int)))) := same_upd ha
    have hA : (upd H a (.lst (rgV 0 (m : Int)))) a = some (.lst ((List.range m).map vN)) := by rw [upd_same, rgV_nat]
    generalize upd H a (.lst (rgV 0 (m : Int))) = H1 at s1 hA
    refine ⟨Nat.zero_le _, fun d hd => ?_⟩
    have nad : a ≠ d := ne_of_none hA hd
    have s2 : Same H1 (upd H1 d (.lst [])) := same_upd hd
    refine ⟨_, _, rfl, ?_⟩
    have k0 : ∀ b, b ∈ [p, l] → b ≠ a ∧ b ≠ d := by
      intro b hb
      obtain ⟨o, e, _⟩ := hP.lists b hb
      exact ⟨ne_of_none e ha, ne_of_none (s1 _ _ e) hd⟩
    refine ⟨_, rfl, _, rfl, by omega, by omega, for_range (lo := 0) (n := m) (fun i σ H' => ∃ (L F : List Nat) (v4 : Option V), σ = [some (.ref p), some (vN m), some (.ref a), some (.ref d), v4] ∧ PoolAt H' p l ∧ Kp [p, l] H H' ∧ H' a = some (.lst (L.map vN)) ∧ H' d = some (.lst (F.map vN)) ∧ (F ++ L).Perm (List.range m) ∧ F.length = i)
      ⟨List.range m, [], _, rfl, (hP.same s1).same s2, Same.kp (s1.trans s2), s2 _ _ hA, upd_same, List.Perm.refl _, rfl⟩ ?_ ?_⟩
    · rintro i σ H2 hi ⟨L, F, v4, rfl, hP2, k2, hL, hF, pm, eF⟩
      have len := pm.length_eq
      rw [List.length_append, List.length_range, eF] at len
      refine ⟨_, rfl, .inl ⟨rfl, _, .inl (.inl hF)⟩, _, rfl, .inl ⟨rfl, _, .inl (.inl hL)⟩, ?_⟩
      refine ⟨_, rfl, _, rfl, a, _, rfl, .inl (.inl (.inl hL)), p, l, L.length, ?_, hP2, by omega, by omega, fun r H3 hr3 hP3 k3 => ?_⟩
      · rw [List.length_map]
        rfl
      have na : a ∉ [p, l] := fun m => (k0 a m).1 rfl
      have nd : d ∉ [p, l] := fun m => (k0 d m).2 rfl
      have hL3 := k3 _ _ na hL
      have hF3 := k3 _ _ nd hF
      obtain ⟨x, hx⟩ : ∃ x, L[r]? = some x := ⟨_, List.getElem?_eq_getElem hr3⟩
      refine ⟨a, _, (r : Int), r, vN x, rfl, rfl, hL3, by omega, by omega, seqIndex_nat (by rw [List.length_map]; exact hr3), by rw [List.getElem?_map, hx]; rfl, ?_⟩
      have hF4 : (upd H3 a (.lst ((L.map vN).eraseIdx r))) d = some (.lst (F.map vN)) := by rw [upd_ne nad.symm]; exact hF3
      refine ⟨d, _, _, rfl, rfl, hF4, by rw [List.length_map, eF]; exact small1000 (by omega), L.eraseIdx r, F ++ [x], _, rfl, ?_, ?_, ?_, ?_, ?_, by rw [List.length_append, eF]; rfl⟩
      · obtain ⟨a1, b1, cs, h1, h2, h3⟩ := hP3
        exact ⟨a1, b1, cs, by rw [upd_ne (k0 p (by simp)).2, upd_ne (k0 p (by simp)).1]; exact h1, by rw [upd_ne (k0 l (by simp)).2, upd_ne (k0 l (by simp)).1]; exact h2, h3⟩
      · intro b o n e
        have na1 : b ≠ a := ne_of_none e ha
        have nd1 : b ≠ d := ne_of_none (s1 _ _ e) hd
        rw [upd_ne nd1, upd_ne na1]
        exact k3 b o n (k2 b o n e)
      · rw [upd_ne nad, upd_same, map_erase]
      · rw [upd_same, List.map_append]
        rfl
      · have pe : (x :: L.eraseIdx r).Perm L := cons_erase hx
        have e1 : F ++ [x] ++ L.eraseIdx r = F ++ (x :: L.eraseIdx r) := by simp
        rw [e1]
        exact (List.Perm.append_left F pe).trans pm
    · rintro σ H2 ⟨L, F, v4, rfl, hP2, k2, hL, hF, pm, eF⟩
      have len := pm.length_eq
      rw [List.length_append, List.length_range, eF] at len
      have eL : L = [] := List.length_eq_zero_iff.mp (by omega)
      subst eL
      rw [List.append_nil] at pm
      exact ⟨_, rfl, q d F H2 pm (s1.free hd) hF hP2 k2⟩
end
end Ft

set_option Elab.async false
set_option linter.all false
set_option maxRecDepth 100000
set_option maxHeartbeats 8000000
namespace Ft
open PySem PySem.Spec PyProof.Rows L2
/-! ### rows of two numbers, sorted -/
def two (p : Nat × Nat) : List Int := [(p.1 : Int), (p.2 : Int)]
theorem two_lt {p q : Nat × Nat} (le : two p ≤ two q) (ne : two p ≠ two q) : ltP p q := by
  unfold two at le ne
  rw [List.cons_le_cons_iff] at le
  rcases le with h | ⟨h1, h2⟩
  · exact .inl (by omega)
  · rw [List.cons_le_cons_iff] at h2
    rcases h2 with h | ⟨h3, _⟩
    · exact .inr ⟨by omega, by omega⟩
    · exact absurd (by rw [h1, h3]) ne
theorem two_inj {p q : Nat × Nat} (h : two p = two q) : p = q := by
  unfold two at h
  simp only [List.cons.injEq, and_true] at h
  exact Prod.ext (by omega) (by omega)
theorem rows_two : ∀ (L : List Row), (∀ r ∈ L, ∃ p, r.2 = two p) → ∃ ps : List (Nat × Nat), L.map (·.2) = ps.map two
  | [], _ => ⟨[], rfl⟩
  | r :: L, h => by
    obtain ⟨p, hp⟩ := h r List.mem_cons_self
    obtain ⟨ps, hps⟩ := rows_two L fun q hq => h q (List.mem_cons_of_mem _ hq)
    exact ⟨p :: ps, by rw [List.map_cons, List.map_cons, hp, hps]⟩
theorem rows_up {L : List Row} {ps : List (Nat × Nat)} (e : L.map (·.2) = ps.map two) (up : L.Pairwise fun q r => q.2 ≤ r.2) (nd : (L.map (·.2)).Nodup) : ps.Pairwise ltP := by
  have h1 : (ps.map two).Pairwise (· ≤ ·) := by
    rw [← e]
    exact List.pairwise_map.mpr up
  rw [e] at nd
  have h2 := List.Pairwise.and h1 nd
  exact (List.pairwise_map.mp h2).imp fun h => two_lt h.1 h.2
theorem rows_pairs {K : PySem.W.Frag} {H : Hp} : ∀ {L : List Row} {ps : List (Nat × Nat)}, L.map (·.2) = ps.map two → (∀ r ∈ L, SqT K H r.1 (r.2.map V.int)) → PairsAt K H (L.map (·.1)) ps
  | [], [], _, _ => .nil
  | [], _ :: _, e, _ => nomatch e
  | _ :: _, [], e, _ => nomatch e
  | r :: L, p :: ps, e, h => by
    rw [List.map_cons, List.map_cons] at e
    injection e with e1 e2
    refine .cons ?_ (rows_pairs e2 fun q hq => h q (List.mem_cons_of_mem _ hq))
    have := h r List.mem_cons_self
    rw [e1] at this
    exact this
/-! ### maps whose places are named anew -/
/-- the new name of a place -/
def nm (perm : List Nat) (a : Nat) : Nat := perm.getD a 0
theorem nm_get {perm : List Nat} {a : Nat} (h : a < perm.length) : perm[a]? = some (nm perm a) := by
  unfold nm
  rw [List.getD_eq_getElem?_getD, List.getElem?_eq_getElem h]
  rfl
structure Named (n : Nat) (prs : List (Nat × Nat)) (ws perm : List Nat) (C : Chart) : Prop where
  n : C.n = n
  ok : C.Ok
  roads : ∀ x y, (x, y) ∈ C.roads ↔ ∃ a b, (a, b) ∈ prs ∧ x = nm perm a ∧ y = nm perm b
  wished : ∀ x, x ∈ C.wished ↔ ∃ a ∈ ws, x = nm perm a
theorem perm_lt {perm : List Nat} {n : Nat} (pm : perm.Perm (List.range n)) {a : Nat} (h : a < n) : nm perm a < n := by
  have len : perm.length = n := by rw [pm.length_eq, List.length_range]
  have := List.mem_of_getElem? (nm_get (perm := perm) (a := a) (by rw [len]; exact h))
  exact List.mem_range.mp (pm.mem_iff.mp this)
theorem nm_at {perm : List Nat} {n : Nat} (pm : perm.Perm (List.range n)) {a : Nat} (h : a < n) : atI (perm.map vN) (a : Int) = some (vN (nm perm a)) := by
  have len : perm.length = n := by rw [pm.length_eq, List.length_range]
  refine atI_nat ?_
  rw [List.getElem?_map, nm_get (by rw [len]; exact h)]
  rfl
section
variable {P : Program} {w : World} {K : PySem.W.Frag} {mg : Str → Option Value} {base : Heap} {t1 t2 : Tok}
/-! ### _law_map_named -/
def sp_law_map_named (K : PySem.W.Frag) : Sp := fun vs H Q _ => ∃ (p l ro wi : Addr) (n : Nat) (ts : List Addr) (prs : List (Nat × Nat)) (ws : List Nat), vs = [.ref p, vN n, .ref ro, .ref wi] ∧ PoolAt H p l ∧ n ≤ 60 ∧
  H ro = some (.lst (ts.map V.ref)) ∧ ro ∉ [p, l] ∧ PairsAt K H ts prs ∧ prs.length < 64 ∧ (∀ q ∈ prs, q.1 < n ∧ q.2 < n) ∧ H wi = some (.lst (ws.map vN)) ∧ wi ∉ [p, l] ∧ ws.length < 64 ∧ (∀ a ∈ ws, a < n) ∧
  ∀ (q c na : Addr) (perm : List Nat) (C : Chart) (H' : Hp), perm.Perm (List.range n) → H q = none → H na = none → H' q = some (.lst [.ref c, .ref na]) → IsChart K H' c C → H' na = some (.lst (perm.map vN)) → Named n prs ws perm C → PoolAt H' p l → Kp [p, l] H H' → Q (.ref q) H'
theorem cal_law_map_named (T : Txt mg) (D : Def K mg "_law_map_named" s_law_map_named) (c_law_turned : Cal P w K mg base 3 "_law_turned" (sp_law_turned K)) : Cal P w K mg base 4 "_law_map_named" (sp_law_map_named K) := by
  refine cal_of D sc_law_map_named (fun _ _ _ _ _ _ us hl => match us, hl with | [_, _, _, _], _ => rfl) (fun vs H Q E h => ?_) (fun f cdv A outer s H vs Q E hr h => ?_)
  · obtain ⟨p, l, ro, wi, n, ts, prs, ws, rfl, _⟩ := h
    rfl
  · obtain ⟨p, l, ro, wi, n, ts, prs, ws, rfl, hP, n60, hRo, oR, hPr, fewP, inP, hWi, oW, fewW, inW, q⟩ := h
    have hU := hr.units
    refine ⟨_, (pss_cons (ps_set (i := 4) sc_law_map_named.nd rfl (Or.inr rfl) (pe_c c_law_turned hr (by decide) (by rfl) (pa_cons (pv 0) (pa_cons (pv 1) pa_nil))))
      (pss_cons (ps_set (i := 5) sc_law_map_named.nd rfl (Or.inl rfl) (pe_callTy (show CallR _ _ (rTupleOf K) from call_tupleOf) (by rfl) T.tuple (by decide +kernel) (pa_cons (pe_callB (show CallR _ _ (rSortedS K P w) from cr_sortedSR rfl hU) (by rfl) T.sorted (by decide +kernel) (pa_cons (pe_callTy (show CallR _ _ (rSetOfT K P w) from cr_setOfT rfl hU) (by rfl) T.set (by decide +kernel) (pa_cons (pe_lc (own := [("a", 6), ("b", 7)]) rfl sc_law_map_named.nd (show PI _ _ _ (iList K _) from pi_list (pv 2)) (blkOk_by (N := ["pool", "places", "roads", "wished", "names", "told", "a", "b"]) (sc := L2.defScope s_law_map_named) (by decide +kernel)) (fun _ _ _ _ _ => (show PG _ _ (gTup K 2 _) from pg_tup (by rfl) (pgs_cons (pg_name (i := 6) sc_law_map_named.nd rfl (Or.inl rfl)) (pgs_cons (pg_name (i := 7) sc_law_map_named.nd rfl (Or.inl rfl)) pgs_nil)))) (fun _ _ _ _ _ => pts_nil) (fun _ _ _ _ _ => (pe_tup (pa_cons (pe_ix (show IxR _ (rIxL K) from ix_list) (pv 4) (pv 6) (fun _ _ => rfl)) (pa_cons (pe_ix (show IxR _ (rIxL K) from ix_list) (pv 4) (pv 7) (fun _ _ => rfl)) pa_nil))))) pa_nil)) pa_nil)) pa_nil)))
      (pss_one (ps_ret (pe_lst (pa_cons (pe_tup (pa_cons (pv 1) (pa_cons (pv 5) (pa_cons (pe_callTy (show CallR _ _ (rTupleOf K) from call_tupleOf) (by rfl) T.tuple (by decide +kernel) (pa_cons (pe_callB (show CallR _ _ (rSortedSet w) from cr_sortedSet rfl) (by rfl) T.sorted (by decide +kernel) (pa_cons (pe_callTy (show CallR _ _ (rSetI K w) from cr_setI rfl) (by rfl) T.set (by decide +kernel) (pa_cons (pe_lc (own := [("a", 6)]) rfl sc_law_map_named.nd (show PI _ _ _ (iList K _) from pi_list (pv 3)) (blkOk_by (N := ["pool", "places", "roads", "wished", "names", "told", "a", "b"]) (sc := L2.defScope s_law_map_named) (by decide +kernel)) (fun _ _ _ _ _ => (pg_name (i := 6) sc_law_map_named.nd rfl (Or.inl rfl))) (fun _ _ _ _ _ => pts_nil) (fun _ _ _ _ _ => (pe_ix (show IxR _ (rIxL K) from ix_list) (pv 4) (pv 6) (fun _ _ => rfl)))) pa_nil)) pa_nil)) pa_nil)) pa_nil)))) (pa_cons (pv 4) pa_nil))))))), ?_⟩
    refine ⟨_, rfl, _, rfl, p, l, n, rfl, hP, by omega, fun na perm H1 pm hna hN hP1 k1 => ?_⟩
    have hRo1 := k1 _ _ oR hRo
    have hWi1 := k1 _ _ oW hWi
    have hPr1 : PairsAt K H1 ts prs := hPr.keep k1 hP.lists
    refine ⟨_, rfl, ro, rfl, ⟨_, .inl (.inl hRo1)⟩, fun d hd => ?_⟩
    have keep : ∀ {H' : Hp}, Kp [d] H1 H' → Same H1 H' := fun {H'} k b o e => k b o (fun m => by rw [List.mem_singleton.mp m, hd] at e; cases e) e
    refine lc_list (K := K) (xs := ts.map V.ref) (fun i H' => ∃ rows : List Row, rows.map (·.2) = (prs.take i).map (fun q => two (nm perm q.1, nm perm q.2)) ∧ Kp [d] H1 H' ∧ H' d = some (.lst (rows.map fun r => V.ref r.1)) ∧ ∀ r ∈ rows, H' r.1 = some (.tup (r.2.map V.int)))
      ⟨[], rfl, (fun b o x e => by rw [upd_ne (ne_of_none e hd)]; exact e), upd_same, fun r h => nomatch h⟩ (fun i H' _ ⟨_, _, k, _⟩ => .inl (.inl (keep k _ _ hRo1))) ?_ ?_
    · rintro i x H2 hx ⟨rows, e2, k2, hD, all⟩
      obtain ⟨t, ht, rfl⟩ := get_map hx
      obtain ⟨q0, hq0, pt⟩ := paired_getL hPr1 ht
      obtain ⟨b1, b2⟩ := inP q0 (List.mem_of_getElem? hq0)
      have hN2 := keep k2 _ _ hN
      have il : i < prs.length := (List.getElem?_eq_some_iff.mp hq0).1
      have el : rows.length = i := by
        have := congrArg List.length e2
        rw [List.length_map, List.length_map, List.length_take] at this
        omega
      refine ⟨t, _, rfl, Same.sqT (keep k2) pt, rfl, _, _, rfl, _, _, rfl, rfl, rfl, ?_⟩
      refine ⟨_, rfl, _, rfl, na, _, _, _, rfl, rfl, .inl (.inl hN2), nm_at pm b1, _, rfl, _, rfl, na, _, _, _, rfl, rfl, .inl (.inl hN2), nm_at pm b2, (by show 2 ≤ sizeLine; decide), fun e he => ?_⟩
      have nde : d ≠ e := ne_of_none hD he
      refine ⟨_, Eq.trans (upd_ne nde) hD, by rw [List.length_map, el]; exact small1000 (by omega), rows ++ [(e, two (nm perm q0.1, nm perm q0.2))], ?_, ?_, by rw [upd_same, List.map_append]; rfl, ?_⟩
      · rw [List.map_append, e2, take_more hq0, List.map_append]
        rfl
      · intro b o nb eb
        have := k2 b o nb eb
        rw [upd_ne (fun z => nb (by rw [z]; simp)), upd_ne (ne_of_none this he)]
        exact this
      · intro r hr'
        rcases List.mem_append.mp hr' with hr' | hr'
        · have := all r hr'
          have n1 : r.1 ≠ d := fun z => by rw [z, hD] at this; cases this
          rw [upd_ne n1, upd_ne (ne_of_none this he)]
          exact this
        · rw [List.mem_singleton.mp hr', upd_ne nde.symm, upd_same]
          rfl
    rintro H2 ⟨rows, e2, k2, hD, all⟩
    rw [List.take_of_length_le (by rw [List.length_map]; exact Nat.le_of_eq (Paired.length hPr1).symm)] at e2
    have elen : rows.length = prs.length := by
      have := congrArg List.length e2
      rw [List.length_map, List.length_map] at this
      exact this
    have shape : ∀ r ∈ rows, ∃ z, r.2 = two z := by
      intro r hr'
      have : r.2 ∈ rows.map (·.2) := List.mem_map.mpr ⟨r, hr', rfl⟩
      rw [e2] at this
      obtain ⟨z, _, ez⟩ := List.mem_map.mp this
      exact ⟨_, ez.symm⟩
    refine ⟨d, rows, rfl, .inl (.inl hD), (fun r hr' => .inl (.inl (all r hr'))), by omega, fun a L ha sub sup => ?_⟩
    have s3 : Same H2 (upd H2 a (SetTO P w a L)) := same_upd ha
    refine ⟨a, L, rfl, upd_same, (fun r hr' => Same.sqT s3 (.inl (.inl (all r (sub r hr'))))), (fun r hr' => by obtain ⟨z, ez⟩ := shape r (sub r hr'); rw [ez]; exact fun y => nomatch y), fun L' u pm' nd few pw hu' => ?_⟩
    have s4 : Same H2 (upd (upd H2 a (SetTO P w a L)) u (.lst (L'.map fun r => V.ref r.1))) := s3.trans (same_upd hu')
    refine ⟨u, _, rfl, .inl ⟨.inl (.inl upd_same), fun tp htp => ?_⟩⟩
    have s5 := s4.trans (same_upd (o := .tup (L'.map fun r => V.ref r.1)) htp)
    have hTp : (upd (upd (upd H2 a (SetTO P w a L)) u (.lst (L'.map fun r => V.ref r.1))) tp (.tup (L'.map fun r => V.ref r.1))) tp = some (.tup (L'.map fun r => V.ref r.1)) := upd_same
    generalize upd (upd (upd H2 a (SetTO P w a L)) u (.lst (L'.map fun r => V.ref r.1))) tp (.tup (L'.map fun r => V.ref r.1)) = H3 at s5 hTp
    have sub' : ∀ r ∈ L', r ∈ rows := fun r hr' => sub r (pm'.mem_iff.mp hr')
    obtain ⟨rds, erds⟩ := rows_two L' fun r hr' => shape r (sub' r hr')
    have upR : rds.Pairwise ltP := rows_up erds pw nd
    have hRd : PairsAt K H3 (L'.map (·.1)) rds := rows_pairs erds fun r hr' => .inl (.inl (s5 _ _ (all r (sub' r hr'))))
    have memR : ∀ x y, (x, y) ∈ rds ↔ ∃ a b, (a, b) ∈ prs ∧ x = nm perm a ∧ y = nm perm b := by
      intro x y
      have h1 : (x, y) ∈ rds ↔ two (x, y) ∈ rds.map two := by
        constructor
        · intro h
          exact List.mem_map.mpr ⟨_, h, rfl⟩
        · intro h
          obtain ⟨z, hz, ez⟩ := List.mem_map.mp h
          rw [← two_inj ez]
          exact hz
      rw [h1, ← erds]
      constructor
      · intro h
        obtain ⟨r, hr', er⟩ := List.mem_map.mp h
        have : r.2 ∈ rows.map (·.2) := List.mem_map.mpr ⟨r, sub' r hr', rfl⟩
        rw [e2, er] at this
        obtain ⟨⟨a', b'⟩, hab, ez⟩ := List.mem_map.mp this
        have := two_inj ez
        injection this with z1 z2
        exact ⟨a', b', hab, z1.symm, z2.symm⟩
      · rintro ⟨a', b', hab, rfl, rfl⟩
        have : two (nm perm a', nm perm b') ∈ rows.map (·.2) := by
          rw [e2]
          exact List.mem_map.mpr ⟨(a', b'), hab, rfl⟩
        obtain ⟨r, hr', er⟩ := List.mem_map.mp this
        have h2 := sup r hr'
        rw [er] at h2
        exact (pm'.map (·.2)).mem_iff.mpr h2
    have s13 : Same H1 H3 := (keep k2).trans s5
    have hN3 := s13 _ _ hN
    have hWi3 := s13 _ _ hWi1
    refine ⟨_, rfl, _, rfl, _, rfl, wi, rfl, ⟨_, .inl (.inl hWi3)⟩, fun d2 hd2 => ?_⟩
    have keep2 : ∀ {H' : Hp}, Kp [d2] H3 H' → Same H3 H' := fun {H'} k b o e => k b o (fun m => by rw [List.mem_singleton.mp m, hd2] at e; cases e) e
    refine lc_list (K := K) (xs := ws.map vN) (fun i H' => Kp [d2] H3 H' ∧ H' d2 = some (.lst (((ws.take i).map (nm perm)).map vN)))
      ⟨(fun b o x e => by rw [upd_ne (ne_of_none e hd2)]; exact e), upd_same⟩ (fun i H' _ ⟨k, _⟩ => .inl (.inl (keep2 k _ _ hWi3))) ?_ ?_
    · rintro i x H4 hx ⟨k4, hD4⟩
      obtain ⟨a', ha', rfl⟩ := get_map hx
      have il : i < ws.length := (List.getElem?_eq_some_iff.mp ha').1
      refine ⟨rfl, ?_⟩
      refine ⟨_, rfl, _, rfl, na, _, _, _, rfl, rfl, .inl (.inl (keep2 k4 _ _ hN3)), nm_at pm (inW a' (List.mem_of_getElem? ha')), _, hD4, ?_, ?_, ?_⟩
      · rw [List.length_map, List.length_map, List.length_take]
        exact small1000 (by omega)
      · intro b o nb eb
        rw [upd_ne (fun z => nb (by rw [z]; simp))]
        exact k4 b o nb eb
      · rw [upd_same, take_more ha', List.map_append, List.map_append]
        rfl
    rintro H4 ⟨k4, hD4⟩
    rw [List.take_of_length_le (by rw [List.length_map]; exact Nat.le_refl _)] at hD4
    refine ⟨d2, iN (ws.map (nm perm)), rfl, .inl (.inl (.inl (by rw [← vN_map]; exact hD4))), by rw [iN_length, List.length_map]; omega, fun p2 n2 hp2 hn2 => ?_⟩
    rw [iN_length, List.length_map] at hn2
    refine ⟨p2, _, n2, rfl, upd_same, by omega, fun ns u2 up2 mem2 _ hu2 => ?_⟩
    refine ⟨u2, _, rfl, .inl ⟨.inl (.inl upd_same), fun tw htw => ?_⟩⟩
    have s6 : Same H4 (upd (upd (upd H4 p2 (SetO w p2 (fun j => decide (j ∈ iN (ws.map (nm perm)))) n2)) u2 (.lst (ns.map V.int))) tw (.tup (ns.map V.int))) := ((same_upd hp2).trans (same_upd hu2)).trans (same_upd htw)
    have hTw : (upd (upd (upd H4 p2 (SetO w p2 (fun j => decide (j ∈ iN (ws.map (nm perm)))) n2)) u2 (.lst (ns.map V.int))) tw (.tup (ns.map V.int))) tw = some (.tup (ns.map V.int)) := upd_same
    generalize upd (upd (upd H4 p2 (SetO w p2 (fun j => decide (j ∈ iN (ws.map (nm perm)))) n2)) u2 (.lst (ns.map V.int))) tw (.tup (ns.map V.int)) = H5 at s6 hTw
    have s15 : Same H1 H5 := s13.trans ((keep2 k4).trans s6)
    have s35 : Same H3 H5 := (keep2 k4).trans s6
    obtain ⟨wl, ewl, memW⟩ : ∃ wl : List Nat, ns = iN wl ∧ ∀ x, x ∈ wl ↔ x ∈ ws.map (nm perm) := by
      have nn : ∀ y ∈ ns, 0 ≤ y := by
        intro y hy
        have := of_decide_eq_true ((mem2 y).mp hy)
        unfold iN at this
        obtain ⟨z, _, ez⟩ := List.mem_map.mp this
        omega
      refine ⟨ns.map Int.toNat, ?_, fun x => ?_⟩
      · unfold iN
        rw [List.map_map]
        conv => lhs; rw [← List.map_id ns]
        exact List.map_congr_left fun y hy => (Int.toNat_of_nonneg (nn y hy)).symm
      · constructor
        · intro h
          obtain ⟨y, hy, ey⟩ := List.mem_map.mp h
          have h2 := of_decide_eq_true ((mem2 y).mp hy)
          have h3 : y = (x : Int) := by
            have := nn y hy
            omega
          rw [h3] at h2
          exact iN_mem.mp h2
        · intro h
          exact List.mem_map.mpr ⟨(x : Int), (mem2 _).mpr (decide_eq_true (iN_mem.mpr h)), by omega⟩
    have upW : wl.Pairwise (· < ·) := by
      rw [ewl] at up2
      unfold iN at up2
      exact (List.pairwise_map.mp up2).imp fun h => by omega
    refine ⟨by show 3 ≤ sizeLine; decide, fun ct hct => ?_⟩
    have s7 : Same H5 (upd H5 ct (.tup [vN n, .ref tp, .ref tw])) := same_upd hct
    refine ⟨_, rfl, by show 2 ≤ sizeLine; decide, fun qa hqa => ?_⟩
    have s8 := s7.trans (same_upd (o := .lst [.ref ct, .ref na]) hqa)
    have s18 := s15.trans s8
    have len : perm.length = n := by rw [pm.length_eq, List.length_range]
    refine q qa ct na perm ⟨n, rds, wl⟩ _ pm ?_ hna upd_same ⟨tp, tw, L'.map (·.1), ?_, ?_, ?_, ?_⟩ (s18 _ _ hN) ⟨rfl, ⟨n60, ?_, ?_, upR, ?_, upW⟩, memR, ?_⟩ (hP1.same s18) ?_
    · have h1 := (s15.trans s7).free hqa
      cases eq : H qa with
      | none => rfl
      | some o =>
        have : qa ∉ [p, l] := by
          intro m
          obtain ⟨o', e', _⟩ := hP1.lists qa m
          rw [e'] at h1
          cases h1
        rw [k1 _ _ this eq] at h1
        cases h1
    · exact .inl (.inl (by rw [upd_ne (ne_of_none upd_same hqa)]; exact upd_same))
    · refine .inl (.inl ?_)
      have := s8 _ _ (s35 _ _ hTp)
      rw [List.map_map]
      exact this
    · exact hRd.keep (Same.kp (ex := []) (s35.trans s8)) (lists_nil _)
    · refine .inl (.inl ?_)
      have := s8 _ _ hTw
      rw [vN_map, ← ewl]
      exact this
    · show rds.length ≤ 240
      have e := congrArg List.length erds
      rw [List.length_map, List.length_map] at e
      omega
    · rintro ⟨x, y⟩ hxy
      obtain ⟨a', b', hab, e1, e3⟩ := (memR x y).mp hxy
      obtain ⟨b1, b2⟩ := inP _ hab
      rw [e1, e3]
      exact ⟨perm_lt pm b1, perm_lt pm b2⟩
    · intro x hx
      obtain ⟨a', ha', e1⟩ := List.mem_map.mp ((memW x).mp hx)
      rw [← e1]
      exact perm_lt pm (inW a' ha')
    · intro x
      rw [memW x, List.mem_map]
      exact ⟨fun ⟨a', h1, h2⟩ => ⟨a', h1, h2.symm⟩, fun ⟨a', h1, h2⟩ => ⟨a', h1, h2.symm⟩⟩
    · exact k1.trans (Same.kp s18)
end
end Ft

set_option Elab.async false
set_option linter.all false
set_option maxRecDepth 100000
set_option maxHeartbeats 8000000
namespace Ft
open PySem PySem.Spec PyProof.Rows L2
/-- ascending places below i -/
structure Upto (F : List Nat) (i : Nat) : Prop where
  up : F.Pairwise (· < ·)
  lt : ∀ a ∈ F, a < i
theorem Upto.nil (i : Nat) : Upto [] i := ⟨.nil, fun _ h => nomatch h⟩
theorem Upto.wider {F : List Nat} {i : Nat} (h : Upto F i) : Upto F (i + 1) := ⟨h.up, fun a m => Nat.lt_succ_of_lt (h.lt a m)⟩
theorem Upto.more {F : List Nat} {i : Nat} (h : Upto F i) : Upto (F ++ [i]) (i + 1) := by
  refine ⟨List.pairwise_append.mpr ⟨h.up, List.pairwise_singleton _ _, fun a ha b hb => ?_⟩, fun a m => ?_⟩
  · rw [List.mem_singleton.mp hb]
    exact h.lt a ha
  · rcases List.mem_append.mp m with m | m
    · exact Nat.lt_succ_of_lt (h.lt a m)
    · rw [List.mem_singleton.mp m]
      omega
theorem Upto.len {F : List Nat} {i : Nat} (h : Upto F i) : F.length ≤ i := up_len h.up h.lt
theorem upto_range (n : Nat) : Upto (List.range n) n := ⟨range_up n, fun _ h => List.mem_range.mp h⟩
theorem nodup_lt_len {l : List Nat} {n : Nat} (nd : l.Nodup) (b : ∀ a ∈ l, a < n) : l.length ≤ n := by
  have := nat_nodup_len l (List.range n) nd fun x hx => List.mem_range.mpr (b x hx)
  rwa [List.length_range] at this
/-! ### a list of pairs as data -/
def encP (p : Nat × Nat) : PyData := .tuple [.int (p.1 : Int), .int (p.2 : Int)]
theorem pairs_shaped (ps : List (Nat × Nat)) : SeqAt.shaped (.list (ps.map encP)) = true := by
  unfold SeqAt.shaped
  have h1 : PyData.canLayAll0 (ps.map encP) = true := by
    induction ps with
    | nil => simp [PyData.canLayAll0]
    | cons c cs ih => simp [PyData.canLayAll0, PyData.canLay0, encP, ih]
  have h2 : PyData.depthAll (ps.map encP) ≤ 1 := by
    induction ps with
    | nil => simp [PyData.depthAll]
    | cons c cs ih =>
      have ih' := ih (by
        have := h1
        simp [PyData.canLayAll0, PyData.canLay0, encP] at this
        exact this)
      simp [PyData.depthAll, PyData.depth, encP]
      omega
  simp [PyData.canLay0, h1, PyData.depth]
  omega
theorem dpAll_pairs {K : PySem.W.Frag} {H : Hp} : ∀ (L : List (Addr × (Nat × Nat))), (∀ r ∈ L, SqT K H r.1 [vN r.2.1, vN r.2.2]) → DpAll K H (L.map fun r => V.ref r.1) (L.map fun r => encP r.2)
  | [], _ => .nil
  | r :: L, h => .cons (.tup (h r List.mem_cons_self) (.cons (.int _) (.cons (.int _) .nil))) (dpAll_pairs L fun q hq => h q (List.mem_cons_of_mem _ hq))
theorem in_vN {x : Nat} {F : List Nat} : inV (vN x) (F.map vN) = decide (x ∈ F) := by
  rw [Bool.eq_iff_iff]
  unfold inV
  rw [List.any_map, List.any_eq_true, decide_eq_true_eq]
  constructor
  · rintro ⟨y, hy, e⟩
    have : (y : Int) = x := by simpa [eqV, vN] using e
    have : y = x := by omega
    exact this ▸ hy
  · intro h
    exact ⟨x, h, by simp [eqV, vN]⟩
theorem all_vN (F : List Nat) : (F.map vN).all flatV = true := by
  rw [List.all_map, List.all_eq_true]
  intro x _
  rfl
theorem PoolAt.set {H : Hp} {p l e : Addr} {o : HO} (n : e ∉ [p, l]) (h : PoolAt H p l) : PoolAt (upd H e o) p l := by
  obtain ⟨a, b, cs, h1, h2, h3⟩ := h
  exact ⟨a, b, cs, by rw [upd_ne (fun z => n (by simp [z]))]; exact h1, by rw [upd_ne (fun z => n (by simp [z]))]; exact h2, h3⟩
/-- what was made on the way does not count -/
theorem kp_made {p l e : Addr} {H H1 H2 : Hp} (k : Kp [p, l] H H1) (he : H1 e = none) (k2 : Kp [p, l, e] H1 H2) : Kp [p, l] H H2 := fun b o nb eb => by
  have e1 := k b o nb eb
  refine k2 b o (fun m => ?_) e1
  simp only [List.mem_cons, List.not_mem_nil, or_false] at m nb
  rcases m with m | m | m
  · exact nb (.inl m)
  · exact nb (.inr m)
  · rw [m, he] at e1
    cases e1
section
variable {P : Program} {w : World} {K : PySem.W.Frag} {mg : Str → Option Value} {base : Heap} {t1 t2 : Tok}
/-! ### _law_map_some_wished -/
def sp_law_map_some_wished (K : PySem.W.Frag) : Sp := fun vs H Q _ => ∃ (p l ro : Addr) (n : Nat) (ts : List Addr) (prs : List (Nat × Nat)), vs = [.ref p, vN n, .ref ro] ∧ PoolAt H p l ∧ n ≤ 60 ∧
  H ro = some (.lst (ts.map V.ref)) ∧ ro ∉ [p, l] ∧ PairsAt K H ts prs ∧ prs.length < 64 ∧
  ∀ (q : Addr) (ws : List Nat) (H' : Hp), ws.Nodup → (∀ a ∈ ws, a < n) → H q = none → H' q = some (.lst (ws.map vN)) → PoolAt H' p l → Kp [p, l] H H' → Q (.ref q) H'
theorem cal_law_map_some_wished (T : Txt mg) (D : Def K mg "_law_map_some_wished" s_law_map_some_wished) (c_law_draw : Cal P w K mg base 2 "_law_draw" sp_law_draw) : Cal P w K mg base 3 "_law_map_some_wished" (sp_law_map_some_wished K) := by
  refine cal_of D sc_law_map_some_wished (fun _ _ _ _ _ _ us hl => match us, hl with | [_, _, _], _ => rfl) (fun vs H Q E h => ?_) (fun f cdv A outer s H vs Q E hr h => ?_)
  · obtain ⟨p, l, ro, n, ts, prs, rfl, _⟩ := h
    rfl
  · obtain ⟨p, l, ro, n, ts, prs, rfl, hP, n60, hRo, oR, hPr, fewP, q⟩ := h
    have hU := hr.units
    refine ⟨_, (pss_cons (ps_asg (pe_tup (pa_cons (pe_c c_law_draw hr (by decide) (by rfl) (pa_cons (pv 0) (pa_cons pe_int pa_nil))) (pa_cons (pe_lc (own := [("a", 5)]) rfl sc_law_map_some_wished.nd (pi_range1 (by rfl) T.range (pa_cons (pv 1) pa_nil)) (blkOk_by (N := ["pool", "places", "roads", "way", "last", "a", "road"]) (sc := L2.defScope s_law_map_some_wished) (by decide +kernel)) (fun _ _ _ _ _ => (pg_name (i := 5) sc_law_map_some_wished.nd rfl (Or.inr rfl))) (fun _ _ _ _ _ => pts_one (pt_cmpR (show OpR _ _ (rEqD K) from op_eqD hU) (pe_lc (own := [("road", 6)]) rfl sc_law_map_some_wished.nd (show PI _ _ _ (iList K _) from pi_list (pv 2)) (blkIn (N := ["pool", "places", "roads", "way", "last", "a", "road"]) (sc := L2.defScope s_law_map_some_wished) rfl (by decide +kernel)) (fun _ _ _ _ _ => (pg_name (i := 6) sc_law_map_some_wished.nd rfl (Or.inl rfl))) (fun _ _ _ _ _ => pts_one (pt_cmpR op_eq (pe_ix (show IxR _ (rIxT K) from ix_tup) (pv 6) pe_int (fun _ _ => rfl)) (pv 5) (nomark _))) (fun _ _ _ _ _ => (pv 6))) (pe_lst pa_nil) (nomark _))) (fun _ _ _ _ _ => (pv 5))) pa_nil))) (show PG _ _ (gTup K 2 _) from pg_tup (by rfl) (pgs_cons (pg_name (i := 3) sc_law_map_some_wished.nd rfl (Or.inr rfl)) (pgs_cons (pg_name (i := 4) sc_law_map_some_wished.nd rfl (Or.inr rfl)) pgs_nil))))
      (pss_cons (ps_if (pt_cmpR op_lt (pv 3) pe_int (nomark _)) (pss_one (ps_ret (pe_op op_cat (pv 4) (pe_lc (own := [("a", 5)]) rfl sc_law_map_some_wished.nd (pi_range1 (by rfl) T.range (pa_cons (pv 1) pa_nil)) (blkOk_by (N := ["pool", "places", "roads", "way", "last", "a", "road"]) (sc := L2.defScope s_law_map_some_wished) (by decide +kernel)) (fun _ _ _ _ _ => (pg_name (i := 5) sc_law_map_some_wished.nd rfl (Or.inl rfl))) (fun _ _ _ _ _ => pts_one (PW.pt (pw_and (pt_cmpR (show OpR _ _ (rIn K true) from op_notIn_seq) (pv 5) (pv 4) (by rfl)) (pw_and (pt_cmpR op_gt (pv 3) pe_int (nomark _)) (pw_and1 (pt_cmpR op_eq (pe_c c_law_draw hr (by decide) (by rfl) (pa_cons (pv 0) (pa_cons pe_int pa_nil))) pe_int (nomark _))))))) (fun _ _ _ _ _ => (pv 5)))))) pss_nil)
      (pss_cons (ps_if (pt_cmpR op_lt (pv 3) pe_int (nomark _)) (pss_one (ps_ret (pe_lc (own := [("a", 5)]) rfl sc_law_map_some_wished.nd (pi_range1 (by rfl) T.range (pa_cons (pv 1) pa_nil)) (blkOk_by (N := ["pool", "places", "roads", "way", "last", "a", "road"]) (sc := L2.defScope s_law_map_some_wished) (by decide +kernel)) (fun _ _ _ _ _ => (pg_name (i := 5) sc_law_map_some_wished.nd rfl (Or.inl rfl))) (fun _ _ _ _ _ => pts_one (pt_cmpR op_eq (pe_c c_law_draw hr (by decide) (by rfl) (pa_cons (pv 0) (pa_cons (pe_op op_sub (pv 3) pe_int) pa_nil))) pe_int (nomark _))) (fun _ _ _ _ _ => (pv 5))))) pss_nil)
      (pss_one (ps_ret (pe_ifExp (pt_cmpR op_gt (pe_c c_law_draw hr (by decide) (by rfl) (pa_cons (pv 0) (pa_cons pe_int pa_nil))) pe_int (nomark _)) (pe_lst pa_nil) (pe_listRg rfl (by rfl) T.list (prg_1 (by rfl) T.range (pv 1))))))))), ?_⟩
    refine ⟨_, rfl, p, l, 8, rfl, hP, by decide, by decide, fun way H1 hway hP1 k1 => ?_⟩
    have hRo1 := k1 _ _ oR hRo
    have hPr1 : PairsAt K H1 ts prs := hPr.keep k1 hP.lists
    refine ⟨_, rfl, _, rfl, by omega, by omega, fun d hd => ?_⟩
    have keep : ∀ {H' : Hp}, Kp [d] H1 H' → Same H1 H' := fun {H'} k b o e => k b o (fun m => by rw [List.mem_singleton.mp m, hd] at e; cases e) e
    refine lc_range (lo := 0) (n := n) (fun i H' => ∃ F : List Nat, Kp [d] H1 H' ∧ H' d = some (.lst (F.map vN)) ∧ Upto F i)
      ⟨[], (fun b o x e => by rw [upd_ne (ne_of_none e hd)]; exact e), upd_same, Upto.nil 0⟩ ?_ ?_
    · rintro i H2 hi ⟨F, k2, hD, hF⟩
      have e0 : (0 : Int) + (i : Nat) = (i : Nat) := by omega
      refine ⟨rfl, ?_⟩
      rw [e0]
      refine ⟨_, rfl, ro, rfl, ⟨_, .inl (.inl (keep k2 _ _ hRo1))⟩, fun e he => ?_⟩
      have keep2 : ∀ {H' : Hp}, Kp [e] H2 H' → Same H2 H' := fun {H'} k b o e' => k b o (fun m => by rw [List.mem_singleton.mp m, he] at e'; cases e') e'
      refine lc_list (K := K) (xs := ts.map V.ref) (fun j H' => ∃ L : List (Addr × (Nat × Nat)), Kp [e] H2 H' ∧ H' e = some (.lst (L.map fun r => V.ref r.1)) ∧ L.length ≤ j ∧ ∀ r ∈ L, SqT K H2 r.1 [vN r.2.1, vN r.2.2])
        ⟨[], (fun b o x e' => by rw [upd_ne (ne_of_none e' he)]; exact e'), upd_same, Nat.le_refl _, fun _ h => nomatch h⟩ (fun j H' _ ⟨_, k, _⟩ => .inl (.inl (keep2 k _ _ (keep k2 _ _ hRo1)))) ?_ ?_
      · rintro j x H3 hx ⟨L, k3, hE, fl, all⟩
        obtain ⟨t, ht, rfl⟩ := get_map hx
        obtain ⟨q0, hq0, pt⟩ := paired_getL hPr1 ht
        have jl : j < prs.length := (List.getElem?_eq_some_iff.mp hq0).1
        have pt2 := Same.sqT (keep k2) pt
        have pt3 := Same.sqT (keep2 k3) pt2
        refine ⟨rfl, ?_⟩
        refine ⟨_, rfl, t, _, _, _, rfl, rfl, pt3, rfl, _, rfl, rfl, _, rfl, ite_any (fun _ => ?_) (fun _ => ?_)⟩
        · refine ⟨_, rfl, _, hE, by rw [List.length_map]; exact small1000 (by omega), L ++ [(t, q0)], ?_, by rw [upd_same, List.map_append]; rfl, by rw [List.length_append]; exact Nat.succ_le_succ fl, ?_⟩
          · intro b o nb eb
            rw [upd_ne (fun z => nb (by rw [z]; simp))]
            exact k3 b o nb eb
          · intro r hr'
            rcases List.mem_append.mp hr' with hr' | hr'
            · exact all r hr'
            · rw [List.mem_singleton.mp hr']
              exact pt2
        · exact ⟨L, k3, hE, by omega, all⟩
      · rintro H3 ⟨L, k3, hE, fl, all⟩
        refine ⟨Nat.zero_le _, fun g hg => ?_⟩
        have s4 : Same H3 (upd H3 g (.lst [])) := same_upd hg
        have hD3 := keep2 k3 _ _ hD
        have kd : Kp [d] H1 (upd H3 g (.lst [])) := fun b o nb eb => s4 _ _ (keep2 k3 _ _ (k2 b o nb eb))
        refine ⟨.list (L.map fun r => encP r.2), .list [], .lst (.inl (.inl (s4 _ _ hE))) (dpAll_pairs L fun r hr' => Same.sqT ((keep2 k3).trans s4) (all r hr')), .lst (.inl (.inl upd_same)) .nil, by have z := pairs_shaped (L.map (·.2)); rw [List.map_map] at z; exact z, rfl, _, rfl, ite_any (fun _ => ?_) (fun _ => ?_)⟩
        · refine ⟨_, rfl, _, s4 _ _ hD3, by rw [List.length_map]; exact small1000 (by have := hF.len; omega), F ++ [i], ?_, by rw [upd_same, List.map_append]; rfl, hF.more⟩
          intro b o nb eb
          rw [upd_ne (fun z => nb (by rw [z]; simp))]
          exact kd b o nb eb
        · exact ⟨F, kd, s4 _ _ hD3, hF.wider⟩
    rintro H2 ⟨F, k2, hD, hF⟩
    refine ⟨by show 2 ≤ sizeLine; decide, fun tp htp => ?_⟩
    have hD' : (upd H2 tp (.tup [vN way, .ref d])) d = some (.lst (F.map vN)) := (same_upd htp) _ _ hD
    refine ⟨tp, _, rfl, .inl (.inl upd_same), rfl, _, _, rfl, _, _, rfl, rfl, ?_⟩
    have s3 : Same H1 (upd H2 tp (.tup [vN way, .ref d])) := (keep k2).trans (same_upd htp)
    generalize upd H2 tp (.tup [vN way, .ref d]) = H3 at s3 hD'
    have hP3 := hP1.same s3
    have k3 : Kp [p, l] H H3 := k1.trans (Same.kp s3)
    have dpl : d ∉ [p, l] := hP1.free hd
    have hd0 : H d = none := kp_free k1 dpl hd
    refine ⟨_, rfl, _, _, rfl, rfl, _, rfl, ite_any (fun _ => ?_) (fun hw4 => ?_)⟩
    · refine ⟨_, rfl, _, rfl, _, rfl, by omega, by omega, fun e he => ?_⟩
      have hde : d ≠ e := ne_of_none hD' he
      have epl : e ∉ [p, l] := hP3.free he
      refine lc_range (lo := 0) (n := n) (fun i H' => ∃ G : List Nat, Kp [p, l, e] H3 H' ∧ H' e = some (.lst (G.map vN)) ∧ PoolAt H' p l ∧ Upto G i ∧ ∀ x ∈ G, x ∉ F)
        ⟨[], (fun b o x e' => by rw [upd_ne (ne_of_none e' he)]; exact e'), upd_same, hP3.same (same_upd he), Upto.nil 0, fun _ h => nomatch h⟩ ?_ ?_
      · rintro i H4 hi ⟨G, k4, hE, hP4, hG, off⟩
        have e0 : (0 : Int) + (i : Nat) = (i : Nat) := by omega
        have hD4 : H4 d = some (.lst (F.map vN)) := k4 _ _ (by simp only [List.mem_cons, List.not_mem_nil, or_false] at dpl ⊢; simp [dpl, hde]) hD'
        refine ⟨rfl, ?_⟩
        rw [e0]
        refine ⟨_, rfl, _, rfl, d, _, rfl, .inl (.inl (.inl hD4)), rfl, all_vN F, _, rfl, ite_any (fun hn => ?_) (fun _ => ?_)⟩
        · have hn' : i ∉ F := by
            have hn2 : (!inV (vN i) (F.map vN)) = true := hn
            rw [in_vN] at hn2
            simpa using hn2
          refine ⟨_, rfl, _, _, rfl, rfl, _, rfl, ite_any (fun _ => ?_) (fun _ => ?_)⟩
          · refine ⟨_, rfl, p, l, 6, rfl, hP4, by decide, by decide, fun r H5 hr5 hP5 k5 => ?_⟩
            have k45 : Kp [p, l, e] H3 H5 := fun b o nb eb => k5 _ _ (fun m => nb (by simp only [List.mem_cons, List.not_mem_nil, or_false] at m ⊢; rcases m with m | m <;> simp [m])) (k4 b o nb eb)
            have hE5 := k5 _ _ epl hE
            refine ⟨rfl, _, rfl, ite_any (fun _ => ?_) (fun _ => ?_)⟩
            · refine ⟨_, rfl, _, hE5, by rw [List.length_map]; exact small1000 (by have := hG.len; omega), G ++ [i], ?_, by rw [upd_same, List.map_append]; rfl, ?_, hG.more, ?_⟩
              · intro b o nb eb
                rw [upd_ne (fun z => nb (by rw [z]; simp))]
                exact k45 b o nb eb
              · exact hP5.set epl
              · intro x hx
                rcases List.mem_append.mp hx with hx | hx
                · exact off x hx
                · rw [List.mem_singleton.mp hx]
                  exact hn'
            · exact ⟨G, k45, hE5, hP5, hG.wider, off⟩
          · exact ⟨G, k4, hE, hP4, hG.wider, off⟩
        · exact ⟨G, k4, hE, hP4, hG.wider, off⟩
      · rintro H4 ⟨G, k4, hE, hP4, hG, off⟩
        have hD4 : H4 d = some (.lst (F.map vN)) := k4 _ _ (by simp only [List.mem_cons, List.not_mem_nil, or_false] at dpl ⊢; simp [dpl, hde]) hD'
        refine ⟨d, e, _, _, rfl, rfl, hD4, hE, ?_, fun z hz => ?_⟩
        · rw [List.length_map, List.length_map]
          have h1 := hF.len
          have h2 := hG.len
          show F.length + G.length ≤ sizeLine
          have h3 : (1000 : Nat) ≤ sizeLine := by decide
          omega
        · have s5 : Same H4 (upd H4 z (.lst (F.map vN ++ G.map vN))) := same_upd hz
          have k34 : Kp [p, l] H H4 := kp_made k3 he k4
          refine q z (F ++ G) _ ?_ ?_ (kp_free k34 (hP4.free hz) hz) (by rw [upd_same, List.map_append]) (hP4.same s5) (k34.trans (Same.kp s5))
          · rw [List.nodup_append]
            exact ⟨up_nodup hF.up, up_nodup hG.up, fun x hx y hy z => off y hy (z ▸ hx)⟩
          · intro x hx
            rcases List.mem_append.mp hx with hx | hx
            · exact hF.lt x hx
            · exact hG.lt x hx
    · have hw4' := of_decide_eq_false hw4
      refine ⟨_, rfl, _, _, rfl, rfl, _, rfl, ite_any (fun hw => ?_) (fun _ => ?_)⟩
      · refine ⟨_, rfl, _, rfl, by omega, by omega, fun e he => ?_⟩
        have epl : e ∉ [p, l] := hP3.free he
        refine lc_range (lo := 0) (n := n) (fun i H' => ∃ G : List Nat, Kp [p, l, e] H3 H' ∧ H' e = some (.lst (G.map vN)) ∧ PoolAt H' p l ∧ Upto G i)
          ⟨[], (fun b o x e' => by rw [upd_ne (ne_of_none e' he)]; exact e'), upd_same, hP3.same (same_upd he), Upto.nil 0⟩ ?_ ?_
        · rintro i H4 hi ⟨G, k4, hE, hP4, hG⟩
          have e0 : (0 : Int) + (i : Nat) = (i : Nat) := by omega
          refine ⟨rfl, ?_⟩
          rw [e0]
          refine ⟨_, rfl, _, rfl, _, _, rfl, rfl, p, l, way - 2, ?_, hP4, by omega, by omega, fun r H5 hr5 hP5 k5 => ?_⟩
          · have : ((way : Nat) : Int) - 2 = ((way - 2 : Nat) : Int) := by omega
            show [V.ref p, V.int ((way : Nat) - 2)] = [V.ref p, V.int ((way - 2 : Nat) : Int)]
            rw [this]
          have k45 : Kp [p, l, e] H3 H5 := fun b o nb eb => k5 _ _ (fun m => nb (by simp only [List.mem_cons, List.not_mem_nil, or_false] at m ⊢; rcases m with m | m <;> simp [m])) (k4 b o nb eb)
          have hE5 := k5 _ _ epl hE
          refine ⟨rfl, _, rfl, ite_any (fun _ => ?_) (fun _ => ?_)⟩
          · refine ⟨_, rfl, _, hE5, by rw [List.length_map]; exact small1000 (by have := hG.len; omega), G ++ [i], ?_, by rw [upd_same, List.map_append]; rfl, hP5.set epl, hG.more⟩
            intro b o nb eb
            rw [upd_ne (fun z => nb (by rw [z]; simp))]
            exact k45 b o nb eb
          · exact ⟨G, k45, hE5, hP5, hG.wider⟩
        · rintro H4 ⟨G, k4, hE, hP4, hG⟩
          have k34 : Kp [p, l] H H4 := kp_made k3 he k4
          exact q e G _ (up_nodup hG.up) hG.lt (kp_free k3 epl he) hE hP4 k34
      · refine ⟨_, rfl, p, l, 3, rfl, hP3, by decide, by decide, fun r H4 hr4 hP4 k4 => ?_⟩
        refine ⟨_, _, rfl, rfl, _, rfl, ite_any (fun _ => ?_) (fun _ => ?_)⟩
        · refine ⟨Nat.zero_le _, fun e he => ?_⟩
          have epl : e ∉ [p, l] := hP4.free he
          exact q e [] _ .nil (fun _ h => nomatch h) (kp_free (k3.trans k4) epl he) upd_same (hP4.set epl) ((k3.trans k4).trans (Same.kp (same_upd he)))
        · refine ⟨_, rfl, _, rfl, .of_le (by omega) (by omega) (by omega) (by omega), fun e he => ?_⟩
          have epl : e ∉ [p, l] := hP4.free he
          exact q e (List.range n) _ (up_nodup (range_up n)) (fun _ h => List.mem_range.mp h) (kp_free (k3.trans k4) epl he) (by rw [upd_same, rgV_nat]) (hP4.set epl) ((k3.trans k4).trans (Same.kp (same_upd he)))
end
end Ft

set_option Elab.async false
set_option linter.all false
set_option maxRecDepth 100000
set_option maxHeartbeats 4000000
namespace Ft
open PySem PySem.Spec PyProof.Rows L2
/-! ### what repr shows of rows of places -/
def encL (l : List Nat) : PyData := .tuple (l.map fun (n : Nat) => .int (n : Int))
theorem small_int : ∀ n : Fin 64, (PyData.int ((n.1 : Nat) : Int)).showable = true ∧ (PyData.int ((n.1 : Nat) : Int)).leavesShort 13 = true ∧ (PyData.int ((n.1 : Nat) : Int)).weight ≤ 7 := by decide +kernel
theorem small_nat {n : Nat} (h : n < 64) : (PyData.int (n : Int)).showable = true ∧ (PyData.int (n : Int)).leavesShort 13 = true ∧ (PyData.int (n : Int)).weight ≤ 7 := small_int ⟨n, h⟩
theorem ints_shown : ∀ l : List Nat, (∀ n ∈ l, n < 64) → PyData.showableAll (l.map fun (n : Nat) => .int (n : Int)) = true ∧ PyData.leavesShortAll 13 (l.map fun (n : Nat) => .int (n : Int)) = true ∧ PyData.weightAll (l.map fun (n : Nat) => .int (n : Int)) ≤ 8 * l.length ∧ PyData.depthAll (l.map fun (n : Nat) => .int (n : Int)) = 0
  | [], _ => by simp [PyData.showableAll, PyData.leavesShortAll, PyData.weightAll, PyData.depthAll]
  | n :: l, h => by
    obtain ⟨a1, a2, a3⟩ := small_nat (h n List.mem_cons_self)
    obtain ⟨b1, b2, b3, b4⟩ := ints_shown l fun m hm => h m (List.mem_cons_of_mem _ hm)
    simp only [List.map_cons, PyData.showableAll, PyData.leavesShortAll, PyData.weightAll, PyData.depthAll, a1, a2, b1, b2, b4, List.length_cons, PyData.depth, Bool.and_self, Nat.max_self, true_and, and_true]
    omega
theorem shows_row {l : List Nat} (h : ∀ n ∈ l, n < 64) (few : l.length ≤ 64) : Shows (encL l) := by
  obtain ⟨b1, b2, b3, b4⟩ := ints_shown l h
  unfold encL
  refine ⟨?_, ?_, ?_, ?_⟩
  · simp only [PyData.showable, b1]
  · simp only [PyData.leavesShort, b2]
  · simp only [PyData.weight]
    omega
  · simp only [PyData.depth, b4]
    omega
theorem rows_shown : ∀ lls : List (List Nat), (∀ l ∈ lls, (∀ n ∈ l, n < 64) ∧ l.length ≤ 64) → PyData.showableAll (lls.map encL) = true ∧ PyData.leavesShortAll 13 (lls.map encL) = true ∧ PyData.weightAll (lls.map encL) ≤ 513 * lls.length ∧ PyData.depthAll (lls.map encL) ≤ 1
  | [], _ => by simp [PyData.showableAll, PyData.leavesShortAll, PyData.weightAll, PyData.depthAll]
  | l :: lls, h => by
    obtain ⟨a1, a2⟩ := h l List.mem_cons_self
    obtain ⟨c1, c2, c3, c4⟩ := ints_shown l a1
    obtain ⟨b1, b2, b3, b4⟩ := rows_shown lls fun m hm => h m (List.mem_cons_of_mem _ hm)
    have e : encL l = .tuple (l.map fun (n : Nat) => .int (n : Int)) := rfl
    simp only [List.map_cons, PyData.showableAll, PyData.leavesShortAll, PyData.weightAll, PyData.depthAll, b1, b2, List.length_cons, e, PyData.showable, PyData.leavesShort, PyData.weight, PyData.depth, c1, c2, c4, Bool.and_self, true_and]
    omega
theorem shows_rows {lls : List (List Nat)} (h : ∀ l ∈ lls, (∀ n ∈ l, n < 64) ∧ l.length ≤ 64) (few : lls.length ≤ 64) : Shows (.tuple (lls.map encL)) := by
  obtain ⟨b1, b2, b3, b4⟩ := rows_shown lls h
  refine ⟨?_, ?_, ?_, ?_⟩
  · simp only [PyData.showable, b1]
  · simp only [PyData.leavesShort, b2]
  · simp only [PyData.weight]
    omega
  · simp only [PyData.depth]
    omega
theorem dp_row {K : PySem.W.Frag} {H : Hp} {t : Addr} {l : List Nat} (h : SqT K H t (l.map vN)) : Dp K H (.ref t) (encL l) := by
  refine .tup h ?_
  have : DpAll K H ((iN l).map V.int) ((iN l).map PyData.int) := dpAll_ints _
  rw [← vN_map] at this
  unfold iN at this
  rw [List.map_map] at this
  exact this
end Ft

set_option Elab.async false
set_option linter.all false
set_option maxRecDepth 100000
set_option maxHeartbeats 4000000
/-! Lambdas without parameters, handed to a def that calls them; the end of a law whose defs make such. -/
namespace Ft
open PySem PySem.Spec PyProof.Rows L2
open LamX (TabB TabS Tabs ExtN CodeO LamS lamSB lamS_by lamCx lamEnv GivesTo tLam)
/-! ### defs that make lambdas: their code object is known -/
structure DefT (K : PySem.W.Frag) (mg : Str → Option Value) (x : Str) (st : Stmt) (c : Addr) : Prop where
  ex : ∃ (f : Addr) (oc : Value) (od : Option Addr) (kV doc pm : Value) (an : Option Addr) (ct : Value) (osl : Array (Option Value)),
    K.lookup f = some ⟨oc, od, .func (PySem.W.fnOf x x (L2.defArgs st) (L2.defBody st) (L2.defScope st) .none kV doc pm an (.ref c) ct), osl⟩ ∧ PySem.W.codeIn K (.ref c) x = true ∧ PySem.W.keepIn K (.ref f) = true ∧ mg x = some (.ref f)
section
variable {P : Program} {w : World} {K : PySem.W.Frag} {mg : Str → Option Value} {base : Heap}
theorem calG_ofT {x : Str} {st : Stmt} {c : Addr} {N ps : List Str} {k : Nat} {sp : Sp} (D : DefT K mg x st c) (S : FnScope N ps (L2.defScope st))
    (bd : ∀ (kV doc pm : Value) (an : Option Addr) (cdv ct : Value) (us : List Value), us.length = ps.length → bindArgs (PySem.W.fnOf x x (L2.defArgs st) (L2.defBody st) (L2.defScope st) .none kV doc pm an cdv ct) ⟨us, []⟩ = pure (ps.zip us))
    (many : ∀ vs H Q E, sp vs H Q E → vs.length = ps.length)
    (body : ∀ (f : Addr) (A : Around) (out : List Env) (s : Shared) (H : Hp) (vs : List V) (Q : VK) (E : XK), A.guards = some [] → Room k (A.deeper (envOfC x (L2.defScope st) s.heap.objs.size f (.ref c))) → sp vs H Q E →
      ∃ t, PSs (cxOf L2.CX0 P w K mg base N x (L2.defScope st) f (.ref c) A out s H E).nox (L2.defBody st) t ∧ t { nx := fun _ H' => Q .non H', rt := Q } (start N vs) H) : CalG P w K mg base (k + 1) x sp := by
  obtain ⟨f, oc, od, kV, doc, pm, an, ct, osl, lk, hcd, kp, hm⟩ := D.ex
  refine ⟨f, _, ps, ⟨many, ?_⟩, hm, kp, .all (bd kV doc pm an (.ref c) ct)⟩
  intro A out s H args us vs Q E hg hr e0 hb r hsp
  have hin : K.In s.heap := e0.mod.kin.keeps (fun b o q => (e0.bs b o q).1)
  have nolim : s.heap.NoLimit := e0.mod.nolimit.keeps (fun b o q => (e0.bs b o q).1)
  have kinds : ∀ y ∈ ps.zip us, (L2.defScope st).names.lookup y.1 = some .local ∨ ((L2.defScope st).names.lookup y.1 = some .cell ∧ ((cellsFrom (s.heap.objs.size + 1) (L2.defScope st).names []).lookup y.1).isSome = true) := by
    intro y hy
    cases S.par y.1 (List.of_mem_zip (a := y.1) (b := y.2) hy).1 with
    | inl q => exact .inl q
    | inr q => exact .inr ⟨q, PySem.W.cellsFrom_some _ _ _ (.inl q)⟩
  refine codeAny_call_function hr.depth (hin _ _ lk) rfl S.co S.gen rfl (PySem.W.codeRec_of hin hcd) (hb _ _ _ _ ?_)
  refine wpAny_newFunctionEnv_cells S.kind kinds fun env he s1 z => ?_
  subst he
  refine ⟨nolim.keeps z.toInCall.keep, codeAny_func ?_⟩
  obtain ⟨t, ht, hq⟩ := body f A out s H vs Q E hg (hr.deeper _) hsp
  have I := inv_start (CX := L2.CX0) (E := E) (f := f) (cd := .ref c) (qual := x) S hr.hd e0 (many _ _ _ _ hsp) r z
  refine wpAny_mono (ht.nox.run [] s1 (start N vs) H _ I hq) ?_ (fun e s' hs => hs)
  intro fl s' hs
  have ends : ∀ {σ' : L2.St} {H' : Hp} {v : V} {u : Value}, Inv (cxOf L2.CX0 P w K mg base N x (L2.defScope st) f (.ref c) A out s H E) [] σ' H' s' → RelV v u → Q v H' → CE out P w H s Q u s' := by
    intro σ' H' v u J rv q
    exact ⟨v, H', J.os, J.bare, J.base, J.hok, rv, q⟩
  cases fl with
  | ret u => exact let ⟨v, σ', H', J, rv, q⟩ := hs; ends J rv q
  | next => exact let ⟨σ', H', J, q⟩ := hs; ends (v := V.non) (u := Value.none) J rfl q
  | brk => exact let ⟨_, _, _, q⟩ := hs; q.elim
  | cont => exact let ⟨_, _, _, q⟩ := hs; q.elim
end
/-! ### the def that calls what it got -/
/-- x() within a try, x the lambda handed in (slot 0) -/
def tAct (f c' : Addr) (q : Str) (tl : XK → Hp → VK → Prop) (W : WX) : TE := fun σ H Q => ∃ Ech : XK, (∀ cls d σ' H', Ech cls d H' → W cls d σ' H') ∧ σ[0]? = some (some (.ref f)) ∧ H c' = some (CodeO c' q) ∧ tl Ech H Q
theorem pe_actE {Y : Cx} {f c' : Addr} {q : Str} {tl : XK → Hp → VK → Prop} {W : WX} {e : Expr}
    (act : ∀ E : XK, (∀ cls d σ' H', E cls d H' → W cls d σ' H') → PE Y e (fun σZ HZ Q => σZ[0]? = some (some (.ref f)) ∧ HZ c' = some (CodeO c' q) ∧ tl E HZ Q)) : PE Y e (tAct f c' q tl W) :=
  ⟨fun pins s σ H Q I ⟨Ech, hW, h1, h2, h3⟩ => (act Ech hW).run pins s σ H Q I ⟨h1, h2, h3⟩⟩
/-! ### the lambda's body: a call of a def that may raise -/
theorem lam_takes {X : Cx} {A : Around} {outer : List Env} {s : Shared} {H : Hp} {E : XK} {scope : Scope} {f c' : Addr} : Takes (lamCx X A outer s H E scope f c') (fun cls d _ H => E cls d H) :=
  takes_of rfl rfl rfl rfl
/-! ### the end of a law row: tables stand beside the script -/
theorem glawT {P : Program} {w : World} {K : PySem.W.Frag} {mg mb : Str → Option Value} {k : Nat} {fa a : Addr} {fd : FuncData} {x : Str} {sp : Sp} {s₁ : Shared} {vs : List Value} {ns : List Int} (cs : List (Addr × Addr))
    (KX : K.In s₁.heap) (hns : s₁.heap.Ns mainGlobals mg) (hb : s₁.heap.Ns builtinsNs mb) (hbb : ∀ x : Str, x ≠ "__name__" → mb x = bootBuiltins x) (hlim : s₁.heap.NoLimit) (hg : s₁.gens = #[])
    (hT : ∀ p ∈ cs, s₁.heap.get? p.2 = some { cls := .none, data := .fields #[] }) (nT : ∀ p ∈ cs, K.lookup p.2 = none) (hC : ∀ p ∈ cs, PySem.W.CodeHd s₁.heap p.1 p.2)
    (hbm : ∃ (bm : Addr) (ob : Obj), mg "__builtins__" = some (.ref bm) ∧ bm ≠ builtinsNs ∧ s₁.heap.get? bm = some ob ∧ ob.cls = .type "module" ∧ ob.dict = some builtinsNs ∧ ob.data = .plain)
    (ha : s₁.heap.get? a = some { cls := .type "list", data := .seq vs.toArray }) (hi : IntsAre vs ns) (hl : ns.length ≤ sizeLine) (hr : Room k callerA)
    (F : ∀ base : Heap, K.In base → base.Ns mainGlobals mg → (∀ p ∈ cs, TabB base mg p.1 p.2) → FnG P w K mg base k fa fd [x] sp) (hbind : ∀ (s : Shared) (u : Value), BindsTo s fd ⟨[u], []⟩ [(x, u)])
    (hsp : ∀ H : Hp, (∀ p ∈ cs, H p.2 = some (.tbl #[])) → SqL K H a (ns.map V.int) → sp [.ref a] H (fun v _ => v = .bl true) fun _ _ _ => False) :
    codeAny (model P w) callerA (.call (.ref fa) ⟨[.ref a], []⟩) (fun r s' => r = .ok (.ret (.bool true)) ∧ OldK s₁.heap s'.heap ∧ s'.os = s₁.os ∧ AllBare s'.gens) s₁ := by
  have rv := vals_ints hi
  let tabs : List Addr := cs.map (·.2)
  have tabAt : ∀ b ∈ tabs, s₁.heap.get? b = some { cls := .none, data := .fields #[] } := by
    intro b hb'
    obtain ⟨p, hp, rfl⟩ := List.mem_map.mp hb'
    exact hT p hp
  have tabIn : ∀ p ∈ cs, p.2 ∈ tabs := fun p hp => List.mem_map.mpr ⟨p, hp, rfl⟩
  have aOff : a ∉ tabs := by
    intro m
    have e := (tabAt a m).symm.trans ha
    have e2 := congrArg (fun o => (Option.map Obj.data o)) e
    simp at e2
  have heart : ∀ H : Hp, (∀ p ∈ cs, H p.2 = some (.tbl #[])) → (∀ b u, H b = some u → (b ∈ tabs ∧ u = .tbl #[]) ∨ (b = a ∧ ∃ o xs, u = .frz o (.lst xs))) → SqL K H a (ns.map V.int) → HOk P w H s₁.heap → (H a ≠ none → K.lookup a = none) →
      codeAny (model P w) callerA (.call (.ref fa) ⟨[.ref a], []⟩) (fun r s' => r = .ok (.ret (.bool true)) ∧ OldK s₁.heap s'.heap ∧ s'.os = s₁.os ∧ AllBare s'.gens) s₁ := by
    intro H hH hO hS hok hK
    have stays : ∀ {b : Addr} {o : Obj}, s₁.heap.get? b = some o → H b = none → (hidT s₁.heap H).get? b = some o := fun q n => hidT_get q n
    have off : ∀ {b : Addr} {o : Obj}, s₁.heap.get? b = some o → (∀ us n, o.data ≠ .seq us n) → o.data ≠ .fields #[] → H b = none := by
      intro b o q d1 d2
      cases z : H b with
      | none => rfl
      | some u =>
        rcases hO b u z with ⟨m, _⟩ | ⟨e, _⟩
        · have eo := Option.some.inj (q.symm.trans (tabAt b m))
          rw [eo] at d2
          exact absurd rfl d2
        · rw [e] at q
          have eo := Option.some.inj (q.symm.trans ha)
          rw [eo] at d1
          exact absurd rfl (d1 _ _)
    have dictOff : ∀ {b : Addr} {o : Obj} {es : Array DictEntry} {ep : Nat}, s₁.heap.get? b = some o → o.data = .dict es ep → H b = none := fun q d => off q (fun _ _ z => by rw [d] at z; cases z) (fun z => by rw [d] at z; cases z)
    have nsIn : ∀ {b : Addr} {m : Str → Option Value}, s₁.heap.Ns b m → (hidT s₁.heap H).Ns b m := fun ⟨o, es, ep, q, d, r⟩ => ⟨o, es, ep, stays q (dictOff q d), d, r⟩
    have kIn : K.In (hidT s₁.heap H) := by
      intro b o q
      refine stays (KX b o q) ?_
      cases z : H b with
      | none => rfl
      | some u =>
        rcases hO b u z with ⟨m, _⟩ | ⟨e, _⟩
        · obtain ⟨p, hp, ep⟩ := List.mem_map.mp m
          have := nT p hp
          rw [ep, q] at this
          cases this
        · subst e
          have := hK (by rw [z]; exact fun y => nomatch y)
          rw [this] at q
          exact nomatch q
    have hM : Mod K mg (hidT s₁.heap H) := by
      obtain ⟨mc, l1, l2⟩ := hlim
      exact ⟨kIn, nsIn hns, ⟨mb, nsIn hb, hbb⟩, ⟨mc, nsIn l1, l2⟩⟩
    have hTB : ∀ p ∈ cs, TabB (hidT s₁.heap H) mg p.1 p.2 := by
      intro p hp
      have hTp := hT p hp
      refine ⟨?_, ?_, fun z => ?_⟩
      · obtain ⟨o, us, file, tf, flags, tg, inF, text, tt, e1, r1, r2, r3, rest⟩ := hC p hp
        refine ⟨o, us, file, tf, flags, tg, inF, text, tt, stays e1 (off e1 (fun _ _ z => by rw [r2] at z; cases z) (fun z => ?_)), r1, r2, r3, rest⟩
        rw [r2] at z
        cases z
        simp at r3
      · obtain ⟨bm, ob, b1, b2, b3, b4, b5, b6⟩ := hbm
        have nG : bm ≠ mainGlobals := by
          intro q
          obtain ⟨o, es, ep, e, hd, _⟩ := hns
          rw [q, e] at b3
          cases b3
          rw [hd] at b6
          cases b6
        have nP : bm ≠ p.2 := by
          intro q
          rw [q, hTp] at b3
          cases b3
          cases b6
        exact ⟨bm, ob, b1, b2, nG, nP, stays b3 (off b3 (fun _ _ z => by rw [b6] at z; cases z) (fun z => by rw [b6] at z; cases z)), b4, b5, b6⟩
      · obtain ⟨o, es, ep, e, hd, _⟩ := hns
        rw [z, hTp] at e
        cases e
        cases hd
    have e0 : Env0 P w K mg (hidT s₁.heap H) callerA [] s₁ H :=
      ⟨rfl, hM, fun b o q => of_hidT q, Nat.le_of_eq (hidT_size _ _), trivial, fun b hb => absurd (show b ∈ ([] : List Addr) from hb) List.not_mem_nil, hok, .of_eq hg⟩
    refine codeAny_mono ((F _ kIn (nsIn hns) hTB).goes callerA [] s₁ H ⟨[.ref a], []⟩ [.ref a] [.ref a] _ _ rfl hr e0 (hbind s₁ (.ref a)) (.cons rfl .nil) (hsp H hH hS)) ?_
    intro r s' h
    cases r with
    | error e => exact h.elim
    | ok fl =>
      cases fl with
      | next => exact h.elim
      | brk => exact h.elim
      | cont => exact h.elim
      | ret u =>
        obtain ⟨v, H', os, bare, un, hok', rr, q⟩ := h
        have q' : v = V.bl true := q
        subst q'
        have eu : u = Value.bool true := rr
        subst eu
        have grown : ∀ p ∈ cs, ∃ more : Array Value, s'.heap.get? p.2 = some { cls := .none, data := .fields more } := by
          intro p hp
          obtain ⟨more, z⟩ := un.tbls p.2 #[] (hH p hp)
          exact ⟨_, hok' p.2 _ z⟩
        have kept : ∀ b o, b ∉ tabs → s₁.heap.get? b = some o → s'.heap.get? b = some o := by
          intro b o nb q
          cases z : H b with
          | none => exact un.keep b o q z (fun y => absurd (show b ∈ ([] : List Addr) from y) List.not_mem_nil) (fun y => absurd y List.not_mem_nil)
          | some u =>
            rcases hO b u z with ⟨m, _⟩ | ⟨_, ob, xs, y⟩
            · exact absurd m nb
            · subst y
              obtain ⟨e1, _⟩ := hok b _ z
              obtain ⟨e2, _⟩ := hok' b _ (un.frzs b ob _ z)
              have eo := Option.some.inj (q.symm.trans e1)
              rw [eo]
              exact e2
        refine ⟨rfl, ⟨fun b o q => ?_, fun b o q => ?_⟩, os, bare⟩
        · by_cases m : b ∈ tabs
          · obtain ⟨p, hp, ep⟩ := List.mem_map.mp m
            obtain ⟨more, hm⟩ := grown p hp
            rw [← ep] at q ⊢
            rw [hT p hp] at q
            cases q
            exact .inr (.inl ⟨((hC p hp).tab (hT p hp)).isCodeTable, rfl, #[], more, rfl, by rw [Array.empty_append]; exact hm⟩)
          · exact .inl (kept b o m q)
        · by_cases m : b ∈ tabs
          · obtain ⟨p, hp, ep⟩ := List.mem_map.mp m
            obtain ⟨more, hm⟩ := grown p hp
            rw [← ep]
            exact ⟨_, hm⟩
          · exact ⟨o, kept b o m q⟩
  let H0 : Hp := fun b => if b ∈ tabs then some (.tbl #[]) else none
  have H0t : ∀ b ∈ tabs, H0 b = some (.tbl #[]) := fun b m => if_pos m
  have H0n : ∀ b, b ∉ tabs → H0 b = none := fun b m => if_neg m
  cases hk : K.lookup a with
  | some o =>
    have eo := Option.some.inj ((KX a o hk).symm.trans ha)
    subst eo
    refine heart H0 (fun p hp => H0t _ (tabIn p hp)) (fun b u z => ?_) (.inr ⟨_, vs.toArray, _, hk, rfl, rfl, rfl, by rw [List.size_toArray, hi.length]; exact hl, by simpa using rv⟩) (fun b u z => ?_) (fun z => absurd (H0n a aOff) z)
    · by_cases m : b ∈ tabs
      · rw [H0t b m] at z
        cases z
        exact .inl ⟨m, rfl⟩
      · rw [H0n b m] at z
        cases z
    · by_cases m : b ∈ tabs
      · rw [H0t b m] at z
        cases z
        exact tabAt b m
      · rw [H0n b m] at z
        cases z
  | none =>
    let fz : HO := .frz { cls := .type "list", data := .seq vs.toArray } (.lst (ns.map V.int))
    let H1 : Hp := fun b => if b = a then some fz else H0 b
    have H1a : H1 a = some fz := if_pos rfl
    have H1n : ∀ b, b ≠ a → H1 b = H0 b := fun b m => if_neg m
    have ne : ∀ b ∈ tabs, b ≠ a := fun b m z => aOff (by rw [← z]; exact m)
    refine heart H1 (fun p hp => by rw [H1n _ (ne _ (tabIn p hp))]; exact H0t _ (tabIn p hp)) (fun b u z => ?_) (.inl (.inr ⟨{ cls := .type "list", data := .seq vs.toArray }, H1a⟩)) (fun b u z => ?_) (fun _ => hk)
    · by_cases e : b = a
      · rw [e, H1a] at z
        cases z
        exact .inr ⟨e, _, _, rfl⟩
      · rw [H1n b e] at z
        by_cases m : b ∈ tabs
        · rw [H0t b m] at z
          cases z
          exact .inl ⟨m, rfl⟩
        · rw [H0n b m] at z
          cases z
    · by_cases e : b = a
      · rw [e, H1a] at z
        cases z
        rw [e]
        exact ⟨ha, by rw [List.length_map]; exact hl, vs, _, rv, ha⟩
      · rw [H1n b e] at z
        by_cases m : b ∈ tabs
        · rw [H0t b m] at z
          cases z
          exact tabAt b m
        · rw [H0n b m] at z
          cases z
theorem gwalkT {l : PySem.W.OpenLaw} {n k : Nat} {q : Program} {loose : List Str} {XP : (Str → Option Value) → Heap → Prop} {YP : World → Heap → Prop} {d : DefRec} {K : Params → PySem.W.Frag} {x : Str}
    (hn : l.most = some n) (hn2 : n ≤ sizeLine) (hdf : d.params.defaults = []) (hr : Room k callerA) (hY : ∀ (w : World) (h : Heap), YP w h → (K w.params).In h)
    (F : ∀ (w : World) (mg : Str → Option Value) (fa : Addr) (h : Heap), YP w h → (K w.params).In h → h.Ns mainGlobals mg → mg d.name = some (.ref fa) →
      ∃ (fd : FuncData) (cs : List (Addr × Addr)) (sp : Sp), (∀ p ∈ cs, h.get? p.2 = some { cls := .none, data := .fields #[] }) ∧ (∀ p ∈ cs, (K w.params).lookup p.2 = none) ∧ (∀ p ∈ cs, PySem.W.CodeHd h p.1 p.2) ∧ (∀ (s : Shared) (u : Value), BindsTo s fd ⟨[u], []⟩ [(x, u)]) ∧
        (∀ (H : Hp) (a : Addr) (ns : List Int), ns.length ≤ n → (∀ p ∈ cs, H p.2 = some (.tbl #[])) → SqL (K w.params) H a (ns.map V.int) → sp [.ref a] H (fun v _ => v = .bl true) fun _ _ _ => False) ∧
        ∀ base : Heap, (K w.params).In base → base.Ns mainGlobals mg → (∀ p ∈ cs, TabB base mg p.1 p.2) → FnG l.prog w (K w.params) mg base k fa fd [x] sp) :
    PySem.W.WalkO q loose XP YP l.row.toRowW d [] (fun f vs => PySem.call f vs) := by
  refine Att.attach_callB hn hdf fun w s₀ s₁ mg mb fa o pm cd doc a vs ns G Y ho hd hcd hmg hobj hints hlen _ hg => ?_
  have KX := hY w _ Y
  obtain ⟨fd, cs, sp, h1, h2, h3, h4, h5, h6⟩ := F w mg fa _ Y KX G.T.g hmg
  exact glawT cs KX G.T.g G.T.b G.T.builtins G.T.nolimit hg h1 h2 h3 G.T.bmain hobj hints (Nat.le_trans hlen hn2) hr h6 h4 fun H hH hS => h5 H a ns hlen hH hS
/-! ### a def that calls the lambda it gets, by its name -/
structure CalL (P : Program) (w : World) (K : PySem.W.Frag) (mg : Str → Option Value) (base : Heap) (x : Str) (TT : (XK → Hp → VK → Prop) → Hp → VK → Prop) : Prop where
  ex : ∃ (g : Addr) (oc : Value) (od : Option Addr) (kV doc pm : Value) (an : Option Addr) (cdv ct : Value) (osl : Array (Option Value)) (st : Stmt) (Ng : List Str) (a : Str),
    K.lookup g = some ⟨oc, od, .func (PySem.W.fnOf x x (L2.defArgs st) (L2.defBody st) (L2.defScope st) .none kV doc pm an cdv ct), osl⟩ ∧ PySem.W.codeIn K cdv x = true ∧ PySem.W.keepIn K (.ref g) = true ∧ mg x = some (.ref g) ∧
    Binds K (PySem.W.fnOf x x (L2.defArgs st) (L2.defBody st) (L2.defScope st) .none kV doc pm an cdv ct) [a] [] ∧ FnScope Ng [a] (L2.defScope st) ∧ Ng[0]? = some a ∧ Vis (L2.defScope st) a ∧ (a == ("__debug__" : Str)) = false ∧ (a == ("__classdict__" : Str)) = false ∧
    ∀ (X : Cx) (q : Str), X.prog = P → X.w = w → X.K = K → X.mg = mg → X.base = base → GivesTo X Ng x (L2.defScope st) g cdv (L2.defBody st) a q TT
theorem pe_l {X : Cx} {T : List (Addr × Str)} {TT : (XK → Hp → VK → Prop) → Hp → VK → Prop} {x : Str} {c P : Addr} (k : Nat) {j : Nat} {params : Arguments} {body : Expr} {scope : Scope} {t : XK → TE} {p lpos pos : Pos} (cl : CalL X.prog X.w X.K X.mg X.base x TT) (hg : Gl X x)
    (TB : TabB X.base X.mg c P) (hcode : X.env.code = .ref c) (hmT : T = [(P, X.env.qual ++ "<lambda>")]) (hr : Room j X.A) (hk : k + 2 ≤ j) (L : LamS X.env.scope scope) (hdef : defaultsOf params X.env = ([], []))
    (hbind : ∀ (q : Str) (cl : List (Str × Addr)) (pm cv ctv : Value), bindArgs (PySem.W.kla_fn "<lambda>" q params body scope cl pm cv ctv) ⟨[], []⟩ = pure [])
    (hbody : ∀ (A : Around) (outer : List Env) (s : Shared) (H : Hp) (E : XK) (f c' : Addr), Room k (A.deeper (lamEnv X scope s.heap.objs.size f c')) → PE (lamCx X A outer s H E scope f c') body (t E))
    (hdb : (x == ("__debug__" : Str)) = false := by decide) :
    PE X (.Call (.Name x p) [.Lambda params body scope lpos] [] pos) (tLam T TT t) := by
  obtain ⟨g, oc, od, kV, doc, pm, an, cdv, ct, osl, st, Ng, a, lk, hcd, kp, hm, b, S, h0, hv, hd, hcl, hG⟩ := cl.ex
  subst hmT
  exact LamX.pe_lamcall (k := k) hg hm kp lk hcd b S h0 hv (hG X _ rfl rfl rfl rfl rfl) TB hcode (by simp) (fun p hp _ => by rw [List.mem_singleton.mp hp]) (hr.mono hk) L hdef hbind hbody hdb hd hcl
theorem calL_of {P : Program} {w : World} {K : PySem.W.Frag} {mg : Str → Option Value} {base : Heap} {x a : Str} {st : Stmt} {N : List Str} {TT : (XK → Hp → VK → Prop) → Hp → VK → Prop} (D : Def K mg x st) (S : FnScope N [a] (L2.defScope st)) (h0 : N[0]? = some a) (hv : Vis (L2.defScope st) a)
    (bd : ∀ (kV doc pm : Value) (an : Option Addr) (cdv ct : Value) (us : List Value), us.length = ([a] : List Str).length → bindArgs (PySem.W.fnOf x x (L2.defArgs st) (L2.defBody st) (L2.defScope st) .none kV doc pm an cdv ct) ⟨us, []⟩ = pure (([a] : List Str).zip us))
    (body : ∀ (X : Cx) (q : Str), X.prog = P → X.w = w → X.K = K → X.mg = mg → X.base = base → ∀ (g : Addr) (cdv : Value) (f c' : Addr) (s : Shared) (H : Hp) (Q : VK) (tl : XK → Hp → VK → Prop),
      (∀ (W : WX) (pn : List (Addr × Obj)) (xe : Value → Shared → Prop) (E : XK) (p1 p2 : Pos), Takes ((cxOf L2.CX0 P w K mg base N x (L2.defScope st) g cdv X.A X.stack s H L2.E0).tr pn xe) W → (∀ cls d σ' H', E cls d H' → W cls d σ' H') →
        PE ((cxOf L2.CX0 P w K mg base N x (L2.defScope st) g cdv X.A X.stack s H L2.E0).tr pn xe) (.Call (.Name a p1) [] [] p2) (fun σZ HZ Q => σZ[0]? = some (some (.ref f)) ∧ HZ c' = some (CodeO c' q) ∧ tl E HZ Q)) →
      H c' = some (CodeO c' q) → TT tl H Q → ∃ t, PSs (cxOf L2.CX0 P w K mg base N x (L2.defScope st) g cdv X.A X.stack s H L2.E0).nox (L2.defBody st) t ∧ t { nx := fun _ H' => Q .non H', rt := Q } (L2.start N [.ref f]) H)
    (hd : (a == ("__debug__" : Str)) = false := by decide) (hcl : (a == ("__classdict__" : Str)) = false := by decide) : CalL P w K mg base x TT := by
  obtain ⟨g, fd, F, hm⟩ := D.ex
  obtain ⟨oc, od, kV, doc, pm, an, cdv, ct, osl, rfl, lk, hcd⟩ := F.ex
  refine ⟨g, oc, od, kV, doc, pm, an, cdv, ct, osl, st, N, a, lk, hcd, F.kp, hm, .all (bd kV doc pm an cdv ct), S, h0, hv, hd, hcl, ?_⟩
  intro X q e1 e2 e3 e4 e5
  subst e1 e2 e3 e4 e5
  intro f c' s H Q tl act hc h
  exact body X q rfl rfl rfl rfl rfl g cdv f c' s H Q tl (fun W pn xe E p1 p2 tk hW => act W pn xe E p1 p2 tk hW) hc h
theorem lam_scope {sc0 sc scope : Scope} (e : sc0 = sc) (h : lamSB sc scope = true) : LamS sc0 scope := by
  rw [e]
  exact lamS_by h
end Ft

set_option Elab.async false
set_option linter.all false
set_option maxRecDepth 100000
set_option maxHeartbeats 4000000
namespace Ft
open PySem PySem.Spec PyProof.Rows L2
open LamX (TabB TabS Tabs ExtN CodeO)
/-! ### data of small numbers and short texts: what repr shows of it -/
def shortS (z : Str) : Bool := decide (z.cps.size ≤ 32) && z.cps.toList.all fun c => decide (c < 16 ^ 8)
mutual
def tame : PyData → Bool
  | .int i => decide (i.natAbs ≤ 1000)
  | .str z => shortS z
  | .list ds => tames ds
  | .tuple ds => tames ds
  | .dict _ => false
  | .none => true
  | .bool _ => true
def tames : List PyData → Bool
  | [] => true
  | d :: ds => tame d && tames ds
end
mutual
def nodes : PyData → Nat
  | .list ds => 1 + nodess ds
  | .tuple ds => 1 + nodess ds
  | _ => 1
def nodess : List PyData → Nat
  | [] => 0
  | d :: ds => nodes d + nodess ds
end
theorem tame_pos : ∀ n : Fin 1001, (PyData.int ((n.1 : Nat) : Int)).showable = true ∧ (PyData.int ((n.1 : Nat) : Int)).leavesShort 13 = true ∧ (PyData.int ((n.1 : Nat) : Int)).weight ≤ 11 := by decide +kernel
theorem tame_neg : ∀ n : Fin 1001, (PyData.int (-((n.1 : Nat) : Int))).showable = true ∧ (PyData.int (-((n.1 : Nat) : Int))).leavesShort 13 = true ∧ (PyData.int (-((n.1 : Nat) : Int))).weight ≤ 11 := by decide +kernel
theorem tame_int {i : Int} (h : i.natAbs ≤ 1000) : (PyData.int i).showable = true ∧ (PyData.int i).leavesShort 13 = true ∧ (PyData.int i).weight ≤ 11 := by
  rcases Int.natAbs_eq i with e | e
  · rw [e]
    exact tame_pos ⟨i.natAbs, by omega⟩
  · rw [e]
    exact tame_neg ⟨i.natAbs, by omega⟩
mutual
theorem tame_facts : ∀ d : PyData, tame d = true → d.showable = true ∧ d.leavesShort 13 = true ∧ d.weight + 1 ≤ 33 * nodes d
  | .none, _ => by simp [PyData.showable, PyData.leavesShort, PyData.weight, nodes]
  | .bool _, _ => by simp [PyData.showable, PyData.leavesShort, PyData.weight, nodes]
  | .int i, h => by
    simp only [tame, decide_eq_true_eq] at h
    obtain ⟨a, b, c⟩ := tame_int h
    refine ⟨a, b, ?_⟩
    simp only [nodes]
    omega
  | .str z, h => by
    simp only [tame, shortS, Bool.and_eq_true, decide_eq_true_eq] at h
    simp only [PyData.showable, PyData.leavesShort, PyData.weight, nodes]
    exact ⟨trivial, h.2, by have := h.1; omega⟩
  | .list ds, h => by
    simp only [tame] at h
    obtain ⟨a, b, c⟩ := tames_facts ds h
    simp only [PyData.showable, PyData.leavesShort, PyData.weight, nodes]
    exact ⟨a, b, by omega⟩
  | .tuple ds, h => by
    simp only [tame] at h
    obtain ⟨a, b, c⟩ := tames_facts ds h
    simp only [PyData.showable, PyData.leavesShort, PyData.weight, nodes]
    exact ⟨a, b, by omega⟩
  | .dict _, h => by simp [tame] at h
theorem tames_facts : ∀ ds : List PyData, tames ds = true → PyData.showableAll ds = true ∧ PyData.leavesShortAll 13 ds = true ∧ PyData.weightAll ds ≤ 33 * nodess ds
  | [], _ => by simp [PyData.showableAll, PyData.leavesShortAll, PyData.weightAll]
  | d :: ds, h => by
    simp only [tames, Bool.and_eq_true] at h
    obtain ⟨a1, b1, c1⟩ := tame_facts d h.1
    obtain ⟨a2, b2, c2⟩ := tames_facts ds h.2
    simp only [PyData.showableAll, PyData.leavesShortAll, PyData.weightAll, nodess, a1, a2, b1, b2]
    exact ⟨rfl, rfl, by omega⟩
end
theorem shows_tame {d : PyData} (h : tame d = true) (few : nodes d ≤ 20000) (dp : d.depth ≤ 60) : Shows d := by
  obtain ⟨a, b, c⟩ := tame_facts d h
  exact ⟨a, b, by omega, dp⟩
/-! ### what stays where all but tables stay -/
theorem ext_sqT {K : PySem.W.Frag} {H H' : Hp} (e : ExtN H H') {a : Addr} {xs : List V} (h : SqT K H a xs) : SqT K H' a xs := by
  rcases h with (h | ⟨o, h⟩) | h
  · exact .inl (.inl (e _ _ h fun ps z => by cases z))
  · exact .inl (.inr ⟨o, e _ _ h fun ps z => by cases z⟩)
  · exact .inr h
theorem ext_sqL {K : PySem.W.Frag} {H H' : Hp} (e : ExtN H H') {a : Addr} {xs : List V} (h : SqL K H a xs) : SqL K H' a xs := by
  rcases h with (h | ⟨o, h⟩) | h
  · exact .inl (.inl (e _ _ h fun ps z => by cases z))
  · exact .inl (.inr ⟨o, e _ _ h fun ps z => by cases z⟩)
  · exact .inr h
mutual
theorem dp_ext {K : PySem.W.Frag} {H H' : Hp} (e : ExtN H H') : ∀ (d : PyData) (v : V), Dp K H v d → Dp K H' v d
  | .none, _, h => by cases h; exact .non
  | .bool _, _, h => by cases h; exact .bl _
  | .int _, _, h => by cases h; exact .int _
  | .str _, _, h => by cases h; exact .str _
  | .list ds, _, h => by
    cases h with
    | lst h a => exact .lst (ext_sqL e h) (dp_exts e ds _ a)
  | .tuple ds, _, h => by
    cases h with
    | tup h a => exact .tup (ext_sqT e h) (dp_exts e ds _ a)
  | .dict _, _, h => by cases h
theorem dp_exts {K : PySem.W.Frag} {H H' : Hp} (e : ExtN H H') : ∀ (ds : List PyData) (vs : List V), DpAll K H vs ds → DpAll K H' vs ds
  | [], _, h => by cases h; exact .nil
  | d :: ds, _, h => by
    cases h with
    | cons h1 h2 => exact .cons (dp_ext e d _ h1) (dp_exts e ds _ h2)
end
theorem ext_same {H H' : Hp} (s : Same H H') : ExtN H H' := ExtN.of fun b o h => s b o h
theorem ext_chart {K : PySem.W.Frag} {H H' : Hp} (e : ExtN H H') {c : Addr} {C : Chart} (h : IsChart K H c C) : IsChart K H' c C := by
  obtain ⟨c2, e2, h2⟩ := chart_dp (dp_ext e _ _ (dp_chart h))
  cases e2
  exact h2
theorem tabs_same {T : List (Addr × Str)} {H H' : Hp} (t : Tabs T H) (s : Same H H') : Tabs T H' := t.ext fun b o h => s b o h
/-- lists change, tables don't -/
theorem tabs_kp {T : List (Addr × Str)} {H H' : Hp} {ex : List Addr} (t : Tabs T H) (k : Kp ex H H') (l : ∀ b ∈ ex, ∃ xs, H b = some (.lst xs)) : Tabs T H' := by
  intro p hp
  obtain ⟨ps, h1, h2, h3⟩ := t p hp
  have n1 : p.1 ∉ ex := fun m => by
    obtain ⟨xs, e⟩ := l _ m
    rw [h1] at e
    cases e
  refine ⟨ps, k _ _ n1 h1, h2, fun pos cv hc => ?_⟩
  obtain ⟨c, e1, e2⟩ := h3 pos cv hc
  have n2 : c ∉ ex := fun m => by
    obtain ⟨xs, e⟩ := l _ m
    rw [e2] at e
    unfold LamX.CodeO at e
    cases e
  exact ⟨c, e1, k _ _ n2 e2⟩
/-! ### tuples joined and cut -/
theorem catA_of {K : PySem.W.Frag} {a b : Addr} {xs ys : List V} {H : Hp} {Q : VK} (hx : SqT K H a xs) (hy : SqT K H b ys) (hl : xs.length + ys.length ≤ 1000) (q : ∀ p H', Same H H' → SqT K H' p (xs ++ ys) → Q (.ref p) H') : rCatA K (.ref a) (.ref b) H Q := by
  have big : (1000 : Nat) ≤ sizeLine := by decide
  refine ⟨a, b, xs, ys, rfl, rfl, hx, hy, by omega, fun e => ?_, fun _ e => ?_, fun _ _ p hp => ?_⟩
  · subst e
    exact q b H (fun _ _ h => h) hy
  · subst e
    exact q a H (fun _ _ h => h) (by rw [List.append_nil]; exact hx)
  · exact q p _ (same_upd hp) (.inl (.inl upd_same))
def cutG {α : Type} (l : List α) (lo hi : Option Int) : List α := (l.drop (HT.sIx l.length 0 lo)).take (HT.sIx l.length l.length hi - HT.sIx l.length 0 lo)
theorem slA_of {K : PySem.W.Frag} {a : Addr} {xs : List V} {lo hi : Option Int} {H : Hp} {Q : VK} (h : SqT K H a xs) (q : ∀ p H', Same H H' → SqT K H' p (cutG xs lo hi) → Q (.ref p) H') : rSlA K (.ref a) lo hi H Q := by
  refine ⟨a, xs, rfl, h, fun ⟨e1, e2⟩ => ?_, fun _ p hp => q p _ (same_upd hp) (.inl (.inl upd_same))⟩
  refine q a H (fun _ _ h => h) ?_
  have : cutG xs lo hi = xs := by
    unfold cutG
    rw [e1, e2]
    simp
  rw [this]
  exact h
theorem no_part {σ : L2.St} {H : Hp} {k : Option Int → Hp → Prop} (h : k none H) : tNoPart σ H k := h
theorem cutG_take {α : Type} {l : List α} {k : Nat} : cutG l none (some (k : Int)) = l.take k := by
  unfold cutG
  rw [HT.sIx_none, HT.sIx_nat]
  simp only [List.drop_zero, Nat.sub_zero]
  rcases Nat.le_total k l.length with h | h
  · rw [Nat.min_eq_left h]
  · rw [Nat.min_eq_right h, List.take_of_length_le (Nat.le_refl _), List.take_of_length_le h]
theorem cutG_drop {α : Type} {l : List α} {k : Nat} : cutG l (some (k : Int)) none = l.drop k := by
  unfold cutG
  rw [HT.sIx_none, HT.sIx_nat]
  rcases Nat.le_total k l.length with h | h
  · rw [Nat.min_eq_left h, List.take_of_length_le (by rw [List.length_drop]; exact Nat.le_refl _)]
  · rw [Nat.min_eq_right h, List.drop_eq_nil_of_le (Nat.le_refl _), List.drop_eq_nil_of_le h]
    simp
theorem cutG_init {α : Type} {l : List α} : cutG l none (some (-1)) = l.take (l.length - 1) := by
  unfold cutG
  rw [HT.sIx_none]
  have e : HT.sIx l.length l.length (some (-1)) = l.length - 1 := by
    show (if (-1 : Int) < 0 then ((-1 : Int) + (l.length : Int)).toNat else min (-1 : Int).toNat l.length) = l.length - 1
    rw [if_pos (by omega)]
    omega
  rw [e]
  simp
theorem dpAll_app {K : PySem.W.Frag} {H : Hp} : ∀ {xs ys : List V} {ds es : List PyData}, DpAll K H xs ds → DpAll K H ys es → DpAll K H (xs ++ ys) (ds ++ es)
  | _, _, _, _, .nil, h => h
  | _, _, _, _, .cons a t, h => .cons a (dpAll_app t h)
theorem dpAll_take {K : PySem.W.Frag} {H : Hp} : ∀ {k : Nat} {xs : List V} {ds : List PyData}, DpAll K H xs ds → DpAll K H (xs.take k) (ds.take k)
  | 0, _, _, _ => by simp only [List.take_zero]; exact .nil
  | _ + 1, _, _, .nil => .nil
  | k + 1, _, _, .cons a t => .cons a (dpAll_take t)
theorem dpAll_drop {K : PySem.W.Frag} {H : Hp} : ∀ {k : Nat} {xs : List V} {ds : List PyData}, DpAll K H xs ds → DpAll K H (xs.drop k) (ds.drop k)
  | 0, _, _, h => h
  | _ + 1, _, _, .nil => .nil
  | k + 1, _, _, .cons a t => dpAll_drop (k := k) t
end Ft

set_option Elab.async false
set_option linter.all false
set_option maxRecDepth 100000
set_option maxHeartbeats 4000000
/-! data that can be held against each other, and not too many -/
namespace Ft
open PySem PySem.Spec PyProof.Rows L2
theorem can_all : ∀ {ds : List PyData}, PyData.canLayAll0 ds = true ↔ ∀ e ∈ ds, PyData.canLay0 e = true
  | [] => ⟨fun _ _ h => (nomatch h), fun _ => by simp [PyData.canLayAll0]⟩
  | d :: ds => by
    simp only [PyData.canLayAll0, Bool.and_eq_true, can_all (ds := ds), List.mem_cons]
    exact ⟨fun h e he => he.elim (fun x => x ▸ h.1) (h.2 e), fun h => ⟨h _ (.inl rfl), fun e he => h e (.inr he)⟩⟩
theorem depth_mem : ∀ {ds : List PyData} {e : PyData}, e ∈ ds → e.depth ≤ PyData.depthAll ds
  | d :: ds, e, h => by
    simp only [PyData.depthAll]
    rcases List.mem_cons.mp h with rfl | h
    · omega
    · have := depth_mem h
      omega
theorem depth_all {n : Nat} : ∀ {ds : List PyData}, (∀ e ∈ ds, e.depth ≤ n) → PyData.depthAll ds ≤ n
  | [], _ => by simp only [PyData.depthAll]; omega
  | d :: ds, h => by
    simp only [PyData.depthAll]
    have h1 := h d List.mem_cons_self
    have h2 := depth_all fun e he => h e (List.mem_cons_of_mem _ he)
    omega
theorem nodes_pos : ∀ d : PyData, 1 ≤ nodes d := fun d => by cases d <;> simp only [nodes] <;> omega
theorem nodes_len : ∀ ds : List PyData, ds.length ≤ nodess ds
  | [] => by simp only [nodess]; exact Nat.le_refl _
  | d :: ds => by
    simp only [nodess, List.length_cons]
    have := nodes_pos d
    have := nodes_len ds
    omega
theorem nodes_mem : ∀ {ds : List PyData} {e : PyData}, e ∈ ds → nodes e ≤ nodess ds
  | d :: ds, e, h => by
    simp only [nodess]
    rcases List.mem_cons.mp h with rfl | h
    · omega
    · have := nodes_mem h
      omega
structure Fine (d : PyData) : Prop where
  sh : SeqAt.shaped d = true
  nd : nodes d ≤ 900
theorem shaped_iff {d : PyData} : SeqAt.shaped d = true ↔ d.canLay0 = true ∧ d.depth ≤ 64 := by
  unfold SeqAt.shaped
  rw [Bool.and_eq_true, decide_eq_true_eq]
theorem Fine.mem {ds : List PyData} {e : PyData} (h : Fine (.tuple ds)) (m : e ∈ ds) : Fine e := by
  obtain ⟨h1, h2⟩ := shaped_iff.mp h.sh
  have h3 := h.nd
  simp only [PyData.canLay0] at h1
  simp only [PyData.depth] at h2
  simp only [nodes] at h3
  have := depth_mem m
  have := nodes_mem m
  exact ⟨shaped_iff.mpr ⟨can_all.mp h1 e m, by omega⟩, by omega⟩
theorem Fine.len {ds : List PyData} (h : Fine (.tuple ds)) : ds.length ≤ 2000 := by
  have h3 := h.nd
  simp only [nodes] at h3
  have := nodes_len ds
  omega
theorem Fine.sub {ds es : List PyData} (h : Fine (.tuple ds)) (m : ∀ e ∈ es, e ∈ ds) : SeqAt.shaped (.list es) = true := by
  obtain ⟨h1, h2⟩ := shaped_iff.mp h.sh
  simp only [PyData.canLay0] at h1
  simp only [PyData.depth] at h2
  have h5 : PyData.depthAll es ≤ PyData.depthAll ds := depth_all fun e he => depth_mem (m e he)
  refine shaped_iff.mpr ⟨?_, ?_⟩
  · simp only [PyData.canLay0]
    exact can_all.mpr fun e he => can_all.mp h1 e (m e he)
  · simp only [PyData.depth]
    omega
/-- a list against the empty one -/
theorem eqv_nil {es : List PyData} : PyData.eqv (.list es) (.list []) = es.isEmpty := by
  cases es with
  | nil => rfl
  | cons e es => rfl
/-- the places of a tuple of places -/
def natsL : List PyData → Option (List Nat)
  | [] => some []
  | .int i :: r => if 0 ≤ i then (natsL r).map (i.toNat :: ·) else none
  | _ :: _ => none
theorem natsL_map : ∀ (l : List Nat), natsL (l.map nD) = some l
  | [] => rfl
  | a :: l => by
    show (if (0 : Int) ≤ (a : Int) then (natsL (l.map nD)).map (((a : Int)).toNat :: ·) else none) = _
    rw [if_pos (by omega), natsL_map l]
    rfl
theorem natsL_some : ∀ {ds : List PyData} {l : List Nat}, natsL ds = some l → ds = l.map nD
  | [], l, h => by cases h; rfl
  | d :: ds, l, h => by
    cases d with
    | int i =>
      simp only [natsL] at h
      split at h
      · rename_i h0
        cases e : natsL ds with
        | none => rw [e] at h; cases h
        | some m =>
          rw [e] at h
          cases h
          rw [List.map_cons, ← natsL_some e]
          congr 1
          show PyData.int i = .int (i.toNat : Int)
          rw [Int.toNat_of_nonneg h0]
      · cases h
    | _ => cases h
theorem natsL_none {ds : List PyData} (h : ∀ l : List Nat, ds ≠ l.map nD) : natsL ds = none := by
  cases e : natsL ds with
  | none => rfl
  | some l => exact absurd (natsL_some e) (h l)
end Ft

set_option Elab.async false
set_option linter.all false
set_option maxRecDepth 100000
set_option maxHeartbeats 4000000
/-! x in t, t a set of tuples of ints -/
namespace Ft
open PySem PySem.Spec PyProof.Rows L2
/-- where the search for the hash g stands at its c-th step -/
def prb (m : Nat) (g : Int) (c : Nat) : SetTable.Probe := nth m (runAt m (SetTable.bits g % (m + 1)) (SetTable.bits g)) c
theorem no_dummy (m : Nat) : ∀ (c : Nat) (p : SetTable.Probe), p.dummy = none → (nth m p c).dummy = none
  | 0, _, h => h
  | c + 1, p, h => no_dummy m c (adv m p) (by unfold adv; split <;> exact h)
theorem prb_add {m : Nat} {g : Int} (c q : Nat) : nth m (prb m g c) q = prb m g (c + q) := (nth_add m c _ q).symm
section
variable {P : Program} {w : World} {A : Around} {E : Value → Shared → Prop} {s : Shared} {a : Addr} {L : List (Addr × List Int)} {es : Array (Int × Value)} {ep : Nat} {t : SetTable}
theorem look_from (R : SetTR P w s.heap a L es ep t) {x : Addr} {k : List Int} (hx : IsT P w s.heap k x) (room : A.units < cLine) {g : Int} (eg : thash P w k = g) {K : Nat} (few : K < 10 * SetTable.turns t.mask)
    (gap : way t.mask g K ∉ t.place.toList) (full : ∀ c, c < K → way t.mask g c ∈ t.place.toList) {Q : SetFound → Shared → Prop} (yes : ∀ i, k ∈ L.map (·.2) → Q (.there (some i)) s) (no : ∀ j, k ∉ L.map (·.2) → Q (.free j false) s) :
    ∀ (f c : Nat) (now : Option SetTable.Probe), now.getD (t.probeStart g) = prb t.mask g c → c ≤ K → K < c + f →
      (∀ (i : Nat) q, L[i]? = some q → q.2 = k → ∃ d, c ≤ d ∧ d < K ∧ t.place.toList[i]? = some (way t.mask g d)) → wpAny (model P w) A (setSearchFrom a (.ref x) g false f now) Q E s
  | 0, c, _, _, h1, h2, _ => absurd h2 (by omega)
  | f + 1, c, now, e0, h1, h2, ahead => by
    obtain ⟨ob, gob, _, dat⟩ := R.ob
    rw [setSearchFrom_succ]
    refine wpAny_bind (wpAny_setState_of gob dat R.fits ?_)
    dsimp only
    rw [if_neg R.gw]
    try refine wpAny_bind (wpAny_pure ?_)
    have hashes : ∀ (i : Nat) q, L[i]? = some q → (es[i]?.map (·.1)).getD 0 = thash P w q.2 := fun i q hq => by rw [R.entry hq]; rfl
    have places : ∀ q, (nth t.mask (prb t.mask g c) q).j = way t.mask g (c + q) := fun q => congrArg SetTable.Probe.j (prb_add c q)
    rcases go_spec t R.tab.ris R.tab.dm (fun i => (es[i]?.map (·.1)).getD 0) g (10 * SetTable.turns t.mask) (K - c) (prb t.mask g c) (no_dummy _ c _ rfl) (by omega) (fun q hq => by rw [places]; exact full _ (by omega))
      (by rw [places, Nat.add_sub_cancel' h1]; exact gap) with ⟨q, i, lq, pi, _, before, told⟩ | ⟨before, told⟩
    · have told' : t.probe (fun i => (es[i]?.map (·.1)).getD 0) g (now.getD (t.probeStart g)) = some (.candidate (way t.mask g (c + q)) i (prb t.mask g (c + (q + 1)))) := by
        rw [e0, ← places, ← prb_add]
        exact told
      rw [told']
      dsimp only
      rw [places] at pi
      have inL : i < L.length := by
        have u1 := (List.getElem?_eq_some_iff.mp pi).1
        have u2 := R.tab.sz
        rw [List.length_map] at u2
        rw [Array.length_toList] at u1
        omega
      obtain ⟨r, hr⟩ : ∃ r, L[i]? = some r := ⟨_, List.getElem?_eq_getElem inL⟩
      have mr := List.mem_of_getElem? hr
      have slot := slot_live R.tab.ris pi
      have after : wpAny (model P w) A (searchRest a (.ref x) g false f es t (way t.mask g (c + q)) i (prb t.mask g (c + (q + 1)))) Q E s := by
        unfold searchRest
        rw [R.entry hr]
        refine wpAny_bind (wpAny_holding (wpAny_eqBool_tuple room (R.tup r mr) hx ?_))
        refine wpAny_bind (wpAny_setState_of gob dat R.fits ?_)
        simp only [Bool.false_and, Bool.false_eq_true, if_false]
        try refine wpAny_bind (wpAny_pure ?_)
        rw [sameMem]
        simp only [if_true, slot, R.entry hr]
        refine wpAny_bind (wpAny_isSame_ref_self (wpAny_bind (wpAny_pure ?_)))
        simp only [if_true]
        by_cases same : r.2 = k
        · rw [if_pos (decide_eq_true same)]
          exact wpAny_pure (yes i (List.mem_map.mpr ⟨r, mr, same⟩))
        · rw [if_neg (by simp [same])]
          refine look_from R hx room eg few gap full yes no f (c + (q + 1)) _ rfl (by omega) (by omega) fun i' q' hq' ek => ?_
          obtain ⟨d, d1, d2, d3⟩ := ahead i' q' hq' ek
          refine ⟨d, ?_, d2, d3⟩
          rcases Nat.lt_trichotomy d (c + q) with lt | e | gt
          · exact absurd ((hashes i' q' hq').trans ((congrArg (thash P w) ek).trans eg)) (before (d - c) i' (by omega) (by rw [places, Nat.add_sub_cancel' d1]; exact d3))
          · rw [e] at d3
            have two := slot_live R.tab.ris d3
            rw [slot] at two
            injection two with two
            rw [← two, hr] at hq'
            exact absurd ((congrArg Prod.snd (Option.some.inj hq')).trans ek) same
          · omega
      by_cases led : t.led = true
      · rw [if_neg (by simp [led])]
        try refine wpAny_bind (wpAny_pure ?_)
        exact after
      · rw [if_pos (by simp [led])]
        refine wpAny_bind (seen_tup hx (fun y hy => ?_) ?_)
        · obtain ⟨en, hen, rfl⟩ := List.mem_map.mp hy
          have inE : en ∈ es.toList := by
            have : en ∈ es ∧ en.1 = g := by simpa using hen
            simpa using this.1
          rw [R.rows] at inE
          obtain ⟨q2, hq2, rfl⟩ := List.mem_map.mp inE
          exact ⟨q2.2, q2.1, rfl, R.tup q2 hq2⟩
        · rw [if_neg (by decide)]
          try refine wpAny_bind (wpAny_pure ?_)
          exact after
    · have told' : t.probe (fun i => (es[i]?.map (·.1)).getD 0) g (now.getD (t.probeStart g)) = some (.empty (way t.mask g K) none) := by
        have eK : way t.mask g K = (nth t.mask (prb t.mask g c) (K - c)).j := by rw [places, Nat.add_sub_cancel' h1]
        rw [e0, eK]
        exact told
      rw [told']
      refine wpAny_pure (no _ fun hk => ?_)
      obtain ⟨q', mq, ek⟩ := List.mem_map.mp hk
      obtain ⟨i', hq'⟩ := List.getElem?_of_mem mq
      obtain ⟨d, d1, d2, d3⟩ := ahead i' q' hq' ek
      exact before (d - c) i' (by omega) (by rw [places, Nat.add_sub_cancel' d1]; exact d3) ((hashes i' q' hq').trans ((congrArg (thash P w) ek).trans eg))
theorem look_at (R : SetTR P w s.heap a L es ep t) {x : Addr} {k : List Int} (hx : IsT P w s.heap k x) (room : A.units < cLine) {Q : SetFound → Shared → Prop} (yes : ∀ i, k ∈ L.map (·.2) → Q (.there (some i)) s) (no : ∀ j, k ∉ L.map (·.2) → Q (.free j false) s) :
    wpAny (model P w) A (setSearch a (.ref x) (thash P w k)) Q E s := by
  have rm := R.room
  obtain ⟨K, few, gap, full⟩ := R.tab.first (by rw [List.length_map]; omega) (thash P w k)
  have turns : 10 * SetTable.turns t.mask ≤ 1420 := by
    unfold SetTable.turns
    rcases R.tab.mok with e | e | e <;> rw [e] <;> decide
  unfold setSearch
  refine look_from R hx room rfl few gap full yes no 100000 0 none rfl (Nat.zero_le _) (by omega) fun i q hq ek => ?_
  have sz := R.tab.sz
  rw [List.length_map] at sz
  have inL := (List.getElem?_eq_some_iff.mp hq).1
  obtain ⟨j, hj⟩ : ∃ j, t.place.toList[i]? = some j := ⟨_, List.getElem?_eq_getElem (by rw [Array.length_toList]; omega)⟩
  obtain ⟨d, hd, e⟩ := R.tab.before gap (by rw [List.getElem?_map, hq, ← ek]; rfl) hj
  exact ⟨d, Nat.zero_le _, hd, by rw [hj, e]⟩
theorem find_at (R : SetTR P w s.heap a L es ep t) {x : Addr} {k : List Int} (hx : IsT P w s.heap k x) (room : A.units < cLine) {Q : Option Nat → Shared → Prop} (h : ∀ r : Option Nat, r.isSome = decide (k ∈ L.map (·.2)) → Q r s) :
    wpAny (model P w) A (setFind a (.ref x) (thash P w k)) Q E s := by
  obtain ⟨ob, gob, _, dat⟩ := R.ob
  show wpAny _ _ (setFindIn a (.ref x) (thash P w k) (99999 + 1)) Q E s
  unfold setFindIn
  refine wpAny_bind (wpAny_setState_of gob dat R.fits ?_)
  dsimp only
  rw [if_neg (by simp [byScan, Value.scannable])]
  try refine wpAny_bind (wpAny_pure ?_)
  refine wpAny_bind (look_at R hx room (fun i m => ?_) fun j m => ?_)
  · exact wpAny_pure (h _ (by rw [decide_eq_true m]; rfl))
  · exact wpAny_pure (h _ (by rw [decide_eq_false m]; rfl))
theorem has_at (R : SetTR P w s.heap a L es ep t) {x : Addr} {k : List Int} (hx : IsT P w s.heap k x) (room : A.units + 64 < cLine) {Q : Bool → Shared → Prop} (h : ∀ tk, Q (decide (k ∈ L.map (·.2))) { s with toks := tk }) :
    wpAny (model P w) A (contains (.ref a) (.ref x)) Q E s := by
  have isSet : s.TypeIs (.ref a) "set" := by
    obtain ⟨ob, gob, ex, _⟩ := R.ob
    exact ⟨ob, gob, ex.1⟩
  have in1 : A.in1.units < cLine := by
    have e : A.in1.units ≤ A.units + 1 := by simp only [Around.in1_units]; omega
    omega
  have ne : ¬ ((some (Value.builtin "set.__contains__") == some Value.none) = true) := by rw [beq_builtin_none]; simp
  unfold contains; try with_reducible refine wpAny_holding ?_
  refine wpAny_bind (wpAny_specialOf isSet F.slot_set_contains.lookup ?_); refine wp_if_neg ne ?_
  refine wpAny_bind (wpAny_callSpecialUnlessNone?_slot (name := Str.ofString "__contains__") isSet F.slot_set_contains (wpAny_call_entry F.slot_set_contains isSet entry_set_contains ?_ (F.args_set_contains_2 _ _)))
  unfold Builtin.«frozenset.__contains__» Builtin.Frozenset.oneOther Builtin.Frozenset.addrOf Builtin.Frozenset.withSetAsKey setContains
  simp only [bind_assoc, List.isEmpty_nil]
  refine wpAny_bind (wpAny_pure ?_); try dsimp only
  refine wpAny_bind (wpAny_pure ?_); try dsimp only
  refine wpAny_bind (wpAny_tryCatch (wpAny_holding ?_))
  refine wpAny_bind (wpAny_pyHash_tuple in1 hx ?_)
  refine wpAny_bind (find_at (s := { s with toks := s.toks + (k.length + 1) }) R hx in1 fun r er => ?_)
  refine wpAny_pure ?_
  show wpAny _ _ (ret (Value.bool r.isSome)) _ _ _
  rw [er]
  exact wpAny_pure ⟨_, rfl, wpAny_truthy_bool (h _)⟩
end
/-- the rows of a set of tuples, all of them tuples still -/
def rTIn (K : PySem.W.Frag) (P : Program) (w : World) (neg : Bool) : R2 := fun x y H Q => ∃ (b a : Addr) (k : List Int) (L : List (Addr × List Int)), x = .ref b ∧ y = .ref a ∧ SqT K H b (k.map V.int) ∧ H a = some (SetTO P w a L) ∧ (∀ p ∈ L, SqT K H p.1 (p.2.map V.int)) ∧ Q (.bl (xor neg (decide (k ∈ L.map (·.2))))) H
theorem setT_get {X : Cx} {pins : List (Addr × Obj)} {σ : L2.St} {H : Hp} {s : Shared} {a : Addr} {L : List (Addr × List Int)} (I : Inv X pins σ H s) (h : H a = some (SetTO X.prog X.w a L)) (all : ∀ p ∈ L, SqT X.K H p.1 (p.2.map V.int)) : ∃ es ep t, SetTR X.prog X.w s.heap a L es ep t := by
  have o : ObjOk X.prog X.w H s.heap a (SetTO X.prog X.w a L) := I.hok a _ h
  exact SetT0.full o.1 fun p hp => I.isT (all p hp)
theorem or_tin {X : Cx} (room : X.A.units + 64 < cLine) : OpR X (compareOp .In) (rTIn X.K X.prog X.w false) := by
  intro pins s σ H x y v u Q I rx ry h
  obtain ⟨b, a, k, L, rfl, rfl, hb, ha, all, q⟩ := h
  cases rx; cases ry
  obtain ⟨es, ep, t, R⟩ := setT_get I ha all
  show wpAny _ _ (do return Value.bool (← contains (.ref a) (.ref b))) _ _ s
  refine wpAny_bind (has_at R (I.isT hb) room fun tk => wpAny_pure ⟨V.bl (decide (k ∈ L.map fun p : Addr × List Int => p.2)), H, I.tok _, rfl, ?_⟩)
  rw [Bool.false_xor] at q
  exact q
theorem or_tnotin {X : Cx} (room : X.A.units + 64 < cLine) : OpR X (compareOp .NotIn) (rTIn X.K X.prog X.w true) := by
  intro pins s σ H x y v u Q I rx ry h
  obtain ⟨b, a, k, L, rfl, rfl, hb, ha, all, q⟩ := h
  cases rx; cases ry
  obtain ⟨es, ep, t, R⟩ := setT_get I ha all
  show wpAny _ _ (do return Value.bool (!(← contains (.ref a) (.ref b)))) _ _ s
  refine wpAny_bind (has_at R (I.isT hb) room fun tk => wpAny_pure ⟨V.bl (!decide (k ∈ L.map fun p : Addr × List Int => p.2)), H, I.tok _, rfl, ?_⟩)
  rw [Bool.true_xor] at q
  exact q
end Ft

set_option Elab.async false
set_option linter.all false
set_option maxRecDepth 100000
set_option maxHeartbeats 8000000
/-! set(t), t a tuple of tuples of ints -/
namespace Ft
open PySem PySem.Spec PyProof.Rows L2
abbrev setO0 (w : World) : Obj := { cls := .type "set", dict := none, data := .set #[] 0 (.fresh 0 0 (!w.params.followText "set-order")) }
theorem get_none {h : Heap} {b : Addr} (le : h.objs.size ≤ b) : h.get? b = none := by
  cases e : h.get? b with
  | none => rfl
  | some o => exact absurd (Nat.lt_of_lt_of_le (Heap.lt_size e) le) (Nat.lt_irrefl _)
section
variable {P : Program} {w : World} {A : Around} {E : Value → Shared → Prop} {s : Shared}
theorem set_of_tups {l : Addr} {items : Array Value} (ks : List (Addr × List Int)) {Q : Value → Shared → Prop} (calm : A.handled = none) (hl : s.heap.IsTuple l items) (its : items.toList = ks.map fun p => Value.ref p.1)
    (hk : ∀ p ∈ ks, IsT P w s.heap p.2 p.1) (few : ks.length < 64) (room : A.units + 3 < cLine)
    (h : ∀ (h' : Heap) (tk : Nat) L es ep t, SetTR P w h' s.heap.objs.size L es ep t → Got ks ks.length L → (∀ b o, s.heap.get? b = some o → h'.get? b = some o) → Q (.ref s.heap.objs.size) { s with heap := h', toks := tk }) :
    wpAny (model P w) A (call (.type "set") [.ref l]) Q E s := by
  have size : items.size = ks.length := by rw [← Array.length_toList, its, List.length_map]
  obtain ⟨c0, tl0, mro⟩ := F.called_set.mro
  have made := F.called_set.made; have sub := F.called_set.sub
  refine wpAny_call (codeAny_of_tree (show wpAny _ _ (callAny (.type "set") _) _ _ _ from ?_))
  refine wpAny_pure ⟨Code.quiet_builtin _ (by decide +kernel), codeAny_builtin F.entry_type_call ?_⟩
  rw [Around.under_plain (weight_type_call_type "set" [.ref l] []) rfl]
  have f1 := F.called_set.notType; have f2 := F.called_set.canCreate; have f3 := F.typeCall_set_1 (.ref l)
  repeat (any_goals (first | assumption | wp_step))
  refine codeAny_mono (code_set_led1 (.ref l) (E := E) (Q₁ := fun v s₁ => v = .ref s.heap.objs.size ∧ s₁ = { s with heap := s.heap.push (setO0 w) }) ⟨rfl, rfl⟩) fun r s₁ hr => ?_
  cases r with
  | error e => exact hr
  | ok fl =>
    cases fl with
    | ret v =>
      obtain ⟨rfl, rfl⟩ := hr
      have gS : (s.heap.push (setO0 w)).get? s.heap.objs.size = some (setO0 w) := Heap.get?_push_size _ rfl
      have tS : Shared.TypeIs { s with heap := s.heap.push (setO0 w) } (.ref s.heap.objs.size) "set" := ⟨_, gS, rfl⟩
      have f4 := F.called_set.init.lookup; have f5 := F.called_set.init.bind (.ref s.heap.objs.size)
      repeat (any_goals (first | assumption | wp_step))
      refine codeAny_mono (codeAny_call_builtin (R := wants (fun r s₂ => r = .none ∧ ∃ h' tk L es ep t, s₂ = { s with heap := h', toks := tk } ∧ SetTR P w h' s.heap.objs.size L es ep t ∧ Got ks ks.length L ∧ (∀ b o, s.heap.get? b = some o → h'.get? b = some o)) E) F.called_set.init.plain F.entry_set_init (check_set_init_1 tS ?_)) fun r₂ s₂ hr₂ => ?_
      · obtain ⟨ol, gl, cl, nl, dl⟩ := hl
        obtain ⟨ocls, odict, odata, oslots⟩ := ol
        simp only at cl dl; subst cl; subst dl
        have gl' : (s.heap.push (setO0 w)).get? l = some { cls := .type "tuple", dict := odict, data := .seq items nl, slots := oslots } := Heap.get?_push_of_some _ gl
        have f6 := F.sub_tuple_set; have f7 := F.sub_tuple_frozenset
        have f8 : (Value.type "tuple" == Value.type "dict") = false := by decide
        have isT : (s.heap.push (setO0 w)).IsTuple l items := ⟨_, gl', rfl, nl, rfl⟩
        unfold Builtin.«set.__init__» noKeywords; unfold Builtin.Frozenset.updateFrom; generalize ePI : pyIter = PI
        wp_walk
        subst ePI
        refine wpAny_pyIter_tuple isT (wpAny_bind (wpAny_runValue ?_))
        have ls : l < s.heap.objs.size := Heap.lt_size gl
        have sz : (s.heap.push (setO0 w)).objs.size = s.heap.objs.size + 1 := Heap.size_push ..
        refine set_update_tups ((Walks.tuple (by simp [calm]) _ l (by rw [sz]; exact Nat.ne_of_lt (Nat.lt_succ_of_lt ls)) items).toS) s.heap.objs.size (by rw [sz]; simp only [List.mem_cons, List.not_mem_nil, or_false, not_or]; exact ⟨Nat.ne_of_lt (Nat.lt_succ_self _), Nat.ne_of_gt ls⟩) ks size few (fun i v hv => ?_) s.heap hk (get_none (Nat.le_refl _)) (fun b hb => get_none (by rw [List.mem_singleton.mp hb, sz]; omega)) (by simp only [Around.in1_units]; omega) (items.size - 0) 0 _ (by omega) (Nat.zero_le _) ⟨⟨_, Heap.get?_push_size _ rfl, rfl, rfl⟩, (isT.push _)⟩ (fun b o e => Heap.get?_push_of_some _ (Heap.get?_push_of_some _ e)) ⟨[], #[], 0, _, setTR_fresh (Heap.get?_push_of_some _ gS), Got.zero ks⟩ fun s' L es ep t mv R' g' kp => ?_
        · have e : items.toList[i]? = some v := by rw [Array.getElem?_toList]; exact hv
          rw [its, List.getElem?_map] at e
          cases ek : ks[i]? with
          | none => rw [ek] at e; cases e
          | some p => rw [ek] at e; exact ⟨p, rfl, (Option.some.inj e).symm⟩
        · obtain ⟨h', g2, d', tk', os'⟩ := s'
          have e1 : g2 = s.gens := mv.gens
          have e2 : d' = s.drawn := mv.drawn
          have e3 : os' = s.os := mv.os
          subst e1 e2 e3
          rw [size] at g'
          exact wpAny_pure (wpAny_pure ⟨rfl, h', tk', L, es, ep, t, rfl, R', g', kp⟩)
      · cases r₂ with
        | error e => exact hr₂
        | ok fl₂ =>
          cases fl₂ with
          | ret r =>
            obtain ⟨rfl, h', tk, L, es, ep, t, rfl, R', g', kp⟩ := hr₂
            repeat (any_goals (first | assumption | wp_step))
            exact h _ _ _ _ _ _ R' g' kp
          | _ => exact hr₂.elim
    | _ => exact hr.elim
end
/-- set(t), t a tuple of tuples of ints -/
def rSetTT (K : PySem.W.Frag) (P : Program) (w : World) : List V → Hp → VK → Prop := fun xs H Q => ∃ (l : Addr) (ks : List (Addr × List Int)), xs = [V.ref l] ∧ SqT K H l (ks.map fun p => V.ref p.1) ∧ (∀ p ∈ ks, SqT K H p.1 (p.2.map V.int)) ∧ ks.length < 64 ∧
  ∀ a L, H a = none → (∀ p ∈ L, p ∈ ks) → (∀ p ∈ ks, p.2 ∈ L.map (·.2)) → Q (.ref a) (upd H a (SetTO P w a L))
theorem cr_setTT {X : Cx} (hc : X.calm = true) (room : X.A.units + 64 < cLine) : CallR X (.type "set") (rSetTT X.K X.prog X.w) := by
  intro pins s σ H xs us Q I r h
  obtain ⟨l, ks, rfl, hl, hk, few, q⟩ := h
  rw [Vals.ref1 r]
  obtain ⟨its, rv, pt, _⟩ := I.tuple hl
  have new : H s.heap.objs.size = none := I.hok.fresh (Nat.le_refl _)
  refine set_of_tups (P := X.prog) (w := X.w) ks (I.ok.hd hc) (show s.heap.IsTuple l its.toArray from pt) (by simpa using refs_of_vals rv) (fun p hp => I.isT (hk p hp)) few (by omega) fun h' tk L es ep t R g kp => ?_
  exact ⟨.ref s.heap.objs.size, upd H s.heap.objs.size (SetTO X.prog X.w s.heap.objs.size L), I.laid (t' := tk) kp (Nat.le_refl _) (setTO_new R.t0), rfl, q _ L new (fun p hp => List.mem_of_mem_take (g.sub p hp)) fun p hp => g.all p (by rw [List.take_length]; exact hp)⟩
end Ft

set_option Elab.async false
set_option linter.all false
set_option maxRecDepth 100000
set_option maxHeartbeats 8000000
namespace Ft
open PySem PySem.Spec PyProof.Rows L2
/-! tuple * int, once or more often -/
theorem tuple_mul1 (l : Addr) (items : Array Value) (n : Nat) (dd : Option Addr) (sl : Array (Option Value)) (u : Tok) :
    Meets (Builtin.«tuple.__mul__» ⟨[.ref l, .int 1 u], []⟩) (fun _ R s => s.heap.get? l = some { cls := .type "tuple", dict := dd, data := .seq items n, slots := sl } ∧ R (.ok (.ret (Value.ref l))) { s with heap := s.heap, toks := s.toks }) :=
  .of_wp fun prog w A R s h => by
    obtain ⟨hp, g, d, tk, os⟩ := s
    obtain ⟨hl, h⟩ := h
    have f1 := AutoSeq1.idx_int
    have c0 : (decide ((1 : Int) < -(2 ^ 63)) || decide ((1 : Int) ≥ 2 ^ 63)) = false := by decide
    have c1 : (items.isEmpty || (1 : Int) == 1) = true := by simp
    wp_walk using wpAny_loadPart' hl
    repeat (first
      | (refine wpAny_ite_false (decide_eq_false (by rw [c0]; exact Bool.false_ne_true)) ?_; wp_walk using wpAny_loadPart' hl)
      | (refine wpAny_ite_true (decide_eq_true (by rw [c1])) ?_; wp_walk using wpAny_loadPart' hl))
    exact ⟨_, rfl, h⟩
def rRep1 (K : PySem.W.Frag) : R2 := fun x y H Q => ∃ l xs, x = .ref l ∧ y = .int 1 ∧ SqT K H l xs ∧ Q (.ref l) H
theorem op_rep1 {X : Cx} : OpR X (binaryOp .Mult) (rRep1 X.K) := by
  intro pins s σ H x y v u Q I rx ry h
  obtain ⟨l, xs, rfl, rfl, hT, q⟩ := h
  have rx' := rx
  cases rx
  obtain ⟨t, rfl⟩ := ry
  obtain ⟨its, r, ⟨⟨cls, dd, data, sl⟩, ho, hc, n, hd⟩, hs⟩ := I.tuple hT
  simp only at hc hd
  subst hc hd
  refine wpAny_binaryOp_repeat_ref (T := "tuple") (U := "int") (by decide) ⟨_, ho, rfl⟩ (fun s' => typeIs_int s' 1 t) noFill_tuple_mul F.fills_int_mul F.slot_int_rmul repeat_tuple F.slot_int_index.lookup
    (call_meets F.slot_int_rmul (typeIs_int s 1 t) F.entry_int_rmul (F.args_int_rmul_2 _ _) (int_rmul_tuple 1 t l its.toArray n dd sl)
      ⟨ho, rfl, ⟨_, ho, rfl⟩, call_meets F.slot_tuple_mul ⟨_, ho, rfl⟩ F.entry_tuple_mul (F.args_tuple_mul_2 _ _) (tuple_mul1 l its.toArray n dd sl t) ⟨ho, ?_⟩⟩)
  exact ⟨.ref l, H, I.tok _, rfl, q⟩
def rRepA (K : PySem.W.Frag) : R2 := fun x y H Q => ∃ l k xs, x = .ref l ∧ y = .int k ∧ SqT K H l xs ∧ xs ≠ [] ∧ 1 ≤ k ∧ k ≤ 1000 ∧ xs.length ≤ 1000 ∧ ∀ p H', Same H H' → SqT K H' p (List.replicate k.toNat xs).flatten → Q (.ref p) H'
theorem op_repA {X : Cx} : OpR X (binaryOp .Mult) (rRepA X.K) := by
  intro pins s σ H x y v u Q I rx ry h
  obtain ⟨l, k, xs, rfl, rfl, hT, ne, k1, k2, few, q⟩ := h
  by_cases e : k = 1
  · subst e
    refine op_rep1 pins s σ H _ _ _ _ Q I rx ry ⟨l, xs, rfl, rfl, hT, q l H (fun _ _ h => h) ?_⟩
    show SqT X.K H l (List.replicate 1 xs).flatten
    simpa using hT
  · exact op_repT pins s σ H _ _ _ _ Q I rx ry ⟨l, k, xs, rfl, rfl, hT, ne, by omega, k2, few, fun p hp => q p _ (same_upd hp) (.inl (.inl upd_same))⟩
open RZ in
theorem walk_zipT {K : PySem.W.Frag} {a b : Addr} {xs ys : List V} {n : Nat} (hn : n = min xs.length ys.length) : Walk (ItzT K a b) n (fun H => SqT K H a xs ∧ SqT K H b ys) (YPair (fun i => xs[i]?) (fun i => ys[i]?)) := by
  subst hn
  refine ⟨fun i _ hi q => ?_, fun _ q => ⟨xs, ys, q.1, q.2, by omega⟩, fun i H v H' _ q y => ?_⟩
  · have h1 : i < xs.length := by omega
    have h2 : i < ys.length := by omega
    exact ⟨xs, ys, xs[i], ys[i], q.1, q.2, by simp [h1], by simp [h2]⟩
  · obtain ⟨T, x, z, h1, h2, h3, h4, h5⟩ := y
    exact ⟨T, x, z, h1, h2, h3, h4 xs q.1, h5 ys q.2⟩
end Ft

set_option Elab.async false
set_option linter.all false
set_option maxRecDepth 100000
set_option maxHeartbeats 8000000
/-! for x in zip(t, u), x one name, t and u tuples: the pair that was given out last is held still. -/
namespace Ft
open PySem PySem.Spec PyProof.Rows L2 RZ
section
variable {prog : Program} {w : World} {A : Around} {E : Value → Shared → Prop} {s : Shared} {z TI TO T i1 i2 l1 l2 : Addr} {f : Bool} {oT : Obj} {k1 k2 : Nat} {xs ys : Array Value}
theorem zipN_item {x y : Value} {Q : Value → Shared → Prop} (D : ZipApart z TI TO i1 i2 l1 l2) (hz : IsZipHeld s.heap z TI TO T f) (hT : s.heap.get? T = some oT) (hTI : IsPair s.heap TI (.ref i1) (.ref i2))
    (t1 : s.heap.IsTupleIter i1 l1 k1) (t2 : s.heap.IsTupleIter i2 l2 k2) (hl1 : s.heap.IsTuple l1 xs) (hl2 : s.heap.IsTuple l2 ys) (hx : xs[k1]? = some x) (hy : ys[k2]? = some y)
    (q : ∀ h', IsZipHeld h' z TI TO T true → h'.IsTupleIter i1 l1 (k1 + 1) → h'.IsTupleIter i2 l2 (k2 + 1) → IsPair h' s.heap.objs.size x y → (∀ c o, c ≠ z → c ≠ i1 → c ≠ i2 → s.heap.get? c = some o → h'.get? c = some o) → Q (.ref s.heap.objs.size) { s with heap := h' }) :
    wpAny (model prog w) A (Builtin.«zip.__next__» ⟨[.ref z], []⟩) (fun fin s' => ∃ v, fin = .done (.ret v) ∧ Q v s') E s := by
  show wpAny _ _ (field (.ref z) 2 >>= _) _ _ _
  refine wpAny_bind (wpAny_field hz rfl (x := .bool false) rfl (show wpAny _ _ (field (.ref z) 3 >>= _) _ _ _ from wpAny_bind (wpAny_field hz rfl (x := .ref TI) rfl (wpAny_bind (wpAny_seqItems hTI rfl ?_)))))
  refine (show wpAny _ _ (Builtin.SmallTypes.ownedTupleIsFree (.ref z) >>= _) _ _ _ from wpAny_bind (wpAny_tupleHeld_zip hz hT fun g1 z1 b1 => ?_))
  simp only [Bool.false_eq_true, if_false]; refine wpAny_bind ?_; rw [← Array.forIn_toList]
  simp only [List.forIn_cons, List.forIn_nil]; refine wpAny_bind (wpAny_bind (wpAny_holding ?_))
  refine (show wpAny _ _ (Builtin.SmallTypes.nextOf (.ref i1) >>= _) _ _ _ from wpAny_bind (nextOf_tuple_item (s := { s with heap := g1 }) (t1.extBut b1.extBut D.i1z) (hl1.extBut b1.extBut D.l1z) hx fun g2 u1 b2 => wpAny_pure (wpAny_pure ?_)))
  refine wpAny_bind (wpAny_bind (wpAny_holding (show wpAny _ _ (Builtin.SmallTypes.nextOf (.ref i2) >>= _) _ _ _ from ?_)))
  refine wpAny_bind (nextOf_tuple_item (s := { s with heap := g2 }) ((t2.extBut b1.extBut D.i2z).extBut b2.extBut D.i12.symm) ((hl2.extBut b1.extBut D.l2z).extBut b2.extBut D.l2i1) hy fun g3 u2 b3 => wpAny_pure (wpAny_pure (wpAny_pure ?_)))
  refine (show wpAny _ _ (newTuple [x, y] >>= _) _ _ _ from wpAny_bind (wpAny_newTuple ?_))
  have sz : g3.objs.size = s.heap.objs.size := b3.1.trans (b2.1.trans b1.1)
  have z3 : IsZipHeld g3 z TI TO T true := b3.extBut _ _ D.i2z.symm (b2.extBut _ _ D.i1z.symm z1)
  have kp : ∀ c o, c ≠ z → c ≠ i1 → c ≠ i2 → s.heap.get? c = some o → g3.get? c = some o := fun c o n1 n2 n3 e => b3.extBut _ _ n3 (b2.extBut _ _ n2 (b1.extBut _ _ n1 e))
  have pr : IsPair (g3.push { cls := .type "tuple", data := .seq #[x, y] }) g3.objs.size x y := Heap.get?_push_size _ rfl
  refine wpAny_pure ⟨_, rfl, (show Q (.ref g3.objs.size) _ from ?_)⟩
  rw [sz] at pr ⊢
  exact q _ (Heap.get?_push_of_some _ z3) ((u1.extBut b3.extBut D.i12).at fun o e => Heap.get?_push_of_some _ e) (u2.at fun o e => Heap.get?_push_of_some _ e) pr fun c o n1 n2 n3 e => Heap.get?_push_of_some _ (kp c o n1 n2 n3 e)
theorem zipN_end {Q : Fin → Shared → Prop} (calm : A.handled = none) (D : ZipApart z TI TO i1 i2 l1 l2) (hz : IsZipHeld s.heap z TI TO T f) (hT : s.heap.get? T = some oT) (hTI : IsPair s.heap TI (.ref i1) (.ref i2))
    (t1 : s.heap.IsTupleIter i1 l1 k1) (t2 : s.heap.IsTupleIter i2 l2 k2) (hl1 : s.heap.IsTuple l1 xs) (hl2 : s.heap.IsTuple l2 ys) (fin : xs[k1]? = none ∨ ys[k2]? = none)
    (q : ∀ h' e, (∀ c o, c ≠ z → c ≠ i1 → c ≠ i2 → s.heap.get? c = some o → h'.get? c = some o) → (∃ o, h'.get? e = some o ∧ o.cls = .type "StopIteration") → E (.ref e) { s with heap := h' }) : wpAny (model prog w) A (Builtin.«zip.__next__» ⟨[.ref z], []⟩) Q E s := by
  show wpAny _ _ (field (.ref z) 2 >>= _) _ _ _
  refine wpAny_bind (wpAny_field hz rfl (x := .bool false) rfl (show wpAny _ _ (field (.ref z) 3 >>= _) _ _ _ from wpAny_bind (wpAny_field hz rfl (x := .ref TI) rfl (wpAny_bind (wpAny_seqItems hTI rfl ?_)))))
  refine (show wpAny _ _ (Builtin.SmallTypes.ownedTupleIsFree (.ref z) >>= _) _ _ _ from wpAny_bind (wpAny_tupleHeld_zip hz hT fun g1 z1 b1 => ?_))
  simp only [Bool.false_eq_true, if_false]; refine wpAny_bind ?_; rw [← Array.forIn_toList]
  simp only [List.forIn_cons, List.forIn_nil]; refine wpAny_bind (wpAny_bind (wpAny_holding ?_))
  refine (show wpAny _ _ (Builtin.SmallTypes.nextOf (.ref i1) >>= _) _ _ _ from ?_)
  cases hx : xs[k1]? with
  | none => exact wpAny_bind (nextOf_tuple_end (s := { s with heap := g1 }) calm (t1.extBut b1.extBut D.i1z) (hl1.extBut b1.extBut D.l1z) hx fun g2 e b2 he => q g2 e (fun c o n1 n2 _ v => b2 _ _ n2 (b1.extBut _ _ n1 v)) he)
  | some x =>
    have hy : ys[k2]? = none := fin.elim (fun v => by rw [hx] at v; cases v) id
    refine wpAny_bind (nextOf_tuple_item (s := { s with heap := g1 }) (t1.extBut b1.extBut D.i1z) (hl1.extBut b1.extBut D.l1z) hx fun g2 u1 b2 => wpAny_pure (wpAny_pure ?_))
    refine wpAny_bind (wpAny_bind (wpAny_holding (show wpAny _ _ (Builtin.SmallTypes.nextOf (.ref i2) >>= _) _ _ _ from ?_)))
    exact wpAny_bind (nextOf_tuple_end (s := { s with heap := g2 }) calm ((t2.extBut b1.extBut D.i2z).extBut b2.extBut D.i12.symm) ((hl2.extBut b1.extBut D.l2z).extBut b2.extBut D.l2i1) hy fun g3 e b3 he => q g3 e (fun c o n1 n2 n3 v => b3 _ _ n3 (b2.extBut _ _ n2 (b1.extBut _ _ n1 v))) he)
theorem nextN_item {x y : Value} {Q : Option Value → Shared → Prop} (D : ZipApart z TI TO i1 i2 l1 l2) (hz : IsZipHeld s.heap z TI TO T f) (hT : s.heap.get? T = some oT) (hTI : IsPair s.heap TI (.ref i1) (.ref i2))
    (t1 : s.heap.IsTupleIter i1 l1 k1) (t2 : s.heap.IsTupleIter i2 l2 k2) (hl1 : s.heap.IsTuple l1 xs) (hl2 : s.heap.IsTuple l2 ys) (hx : xs[k1]? = some x) (hy : ys[k2]? = some y)
    (q : ∀ h', IsZipHeld h' z TI TO T true → h'.IsTupleIter i1 l1 (k1 + 1) → h'.IsTupleIter i2 l2 (k2 + 1) → IsPair h' s.heap.objs.size x y → (∀ c o, c ≠ z → c ≠ i1 → c ≠ i2 → s.heap.get? c = some o → h'.get? c = some o) → Q (some (.ref s.heap.objs.size)) { s with heap := h' }) :
    wpAny (model prog w) A (pyNext (.ref z)) Q E s := by
  have ty : s.TypeIs (.ref z) "zip" := ⟨_, hz, rfl⟩
  unfold pyNext; refine wpAny_bind (wpAny_attempt (wpAny_callSpecial?_slot (name := Str.ofString "__next__") ty F.slot_zip_next ?_))
  exact wpAny_call_entry F.slot_zip_next ty F.entry_zip_next (zipN_item D hz hT hTI t1 t2 hl1 hl2 hx hy fun h' a b c d e => wpAny_pure (q h' a b c d e)) (F.args_zip_next_1 _)
theorem nextN_end {Q : Option Value → Shared → Prop} (calm : A.handled = none) (D : ZipApart z TI TO i1 i2 l1 l2) (hz : IsZipHeld s.heap z TI TO T f) (hT : s.heap.get? T = some oT) (hTI : IsPair s.heap TI (.ref i1) (.ref i2))
    (t1 : s.heap.IsTupleIter i1 l1 k1) (t2 : s.heap.IsTupleIter i2 l2 k2) (hl1 : s.heap.IsTuple l1 xs) (hl2 : s.heap.IsTuple l2 ys) (fin : xs[k1]? = none ∨ ys[k2]? = none)
    (q : ∀ h', (∀ c o, c ≠ z → c ≠ i1 → c ≠ i2 → s.heap.get? c = some o → h'.get? c = some o) → Q none { s with heap := h' }) : wpAny (model prog w) A (pyNext (.ref z)) Q E s := by
  have ty : s.TypeIs (.ref z) "zip" := ⟨_, hz, rfl⟩
  unfold pyNext; refine wpAny_bind (wpAny_attempt (wpAny_callSpecial?_slot (name := Str.ofString "__next__") ty F.slot_zip_next ?_))
  refine wpAny_call_entry F.slot_zip_next ty F.entry_zip_next (zipN_end calm D hz hT hTI t1 t2 hl1 hl2 fin fun h' e kp he => ?_) (F.args_zip_next_1 _)
  obtain ⟨o, ho, hc⟩ := he
  exact wpAny_bind (wpAny_isInstance (T := "StopIteration") (b := true) ⟨o, ho, hc⟩ isSubtype_stop (wpAny_pure (q _ kp)))
end
end Ft

set_option Elab.async false
set_option linter.all false
set_option maxRecDepth 100000
set_option maxHeartbeats 8000000
/-! [e for x in zip(t, u)], x one name, t and u tuples -/
namespace Ft
open PySem PySem.Spec PyProof.Rows L2 RZ
/-- the items in pairs of their own; W by the turns that are done -/
def tLcZ (K : PySem.W.Frag) (ta : TA) (i : Nat) (te : TE) (vs : List Nat) : TE := fun σ H Q => ta σ H fun as H1 => ∃ (a b : Addr) (xs ys : List V), as = [.ref a, .ref b] ∧ SqT K H1 a xs ∧ SqT K H1 b ys ∧ ∀ D, H1 D = none → ∃ W : Nat → Hp → Prop, W 0 (upd H1 D (.lst [])) ∧
  (∀ j H, W j H → SqT K H a xs ∧ SqT K H b ys) ∧ (∀ j x y H T, W j H → xs[j]? = some x → ys[j]? = some y → H T = none → gName i (.ref T) (wipe σ vs) (upd H T (.tup [x, y])) fun σ2 H2 => wipe σ2 vs = wipe σ vs ∧ te σ2 H2 fun v H3 => ∃ acc, H3 D = some (.lst acc) ∧ acc.length < sizeLine ∧ (∀ c ps, upd H T (.tup [x, y]) c = some (.tup ps) → H3 c = some (.tup ps)) ∧ W (j + 1) (upd H3 D (.lst (acc ++ [v])))) ∧
  ∀ H, W (min xs.length ys.length) H → Q (.ref D) H
/-- the zip as it stands between two turns: nothing given out yet, or a pair that is tracked -/
def ZAt (h : Heap) (H : Hp) (z TI TO i1 i2 a b : Addr) (j : Nat) : Prop := IsPair h TI (.ref i1) (.ref i2) ∧ h.IsTupleIter i1 a j ∧ h.IsTupleIter i2 b j ∧ (∃ x y, IsPair h TO x y) ∧ (IsZip h z TI TO .none ∨ ∃ (T : Addr) (f : Bool) (ps : List V), IsZipHeld h z TI TO T f ∧ H T = some (.tup ps))
theorem ZAt.keep {h h' : Heap} {H H' : Hp} {z TI TO i1 i2 a b : Addr} {j : Nat} (q : ZAt h H z TI TO i1 i2 a b j) (k : ∀ c ∈ [z, TI, TO, i1, i2], ∀ o, h.get? c = some o → h'.get? c = some o) (t : ∀ c ps, H c = some (.tup ps) → H' c = some (.tup ps)) : ZAt h' H' z TI TO i1 i2 a b j := by
  obtain ⟨q1, q2, q3, ⟨x, y, q4⟩, q5⟩ := q
  refine ⟨k _ (by simp) _ q1, q2.at fun o e => k _ (by simp) o e, q3.at fun o e => k _ (by simp) o e, ⟨x, y, k _ (by simp) _ q4⟩, ?_⟩
  rcases q5 with q5 | ⟨T, f, ps, q5, q6⟩
  · exact .inl (k _ (by simp) _ q5)
  · exact .inr ⟨T, f, ps, k _ (by simp) _ q5, t _ _ q6⟩
theorem ZAt.lt {h : Heap} {H : Hp} {z TI TO i1 i2 a b : Addr} {j : Nat} (q : ZAt h H z TI TO i1 i2 a b j) : ∀ c ∈ [z, TI, TO, i1, i2], ∃ o, h.get? c = some o ∧ ∀ v, o.data ≠ .cell v := by
  obtain ⟨q1, ⟨o1, e1, _, d1⟩, ⟨o2, e2, _, d2⟩, ⟨x, y, q4⟩, q5⟩ := q
  intro c hc
  have hc' : c = z ∨ c = TI ∨ c = TO ∨ c = i1 ∨ c = i2 := by simpa using hc
  rcases hc' with rfl | rfl | rfl | rfl | rfl
  · rcases q5 with q5 | ⟨T, f, ps, q5, _⟩
    · exact ⟨_, q5, fun v q => nomatch q⟩
    · exact ⟨_, q5, fun v q => nomatch q⟩
  · exact ⟨_, q1, fun v q => nomatch q⟩
  · exact ⟨_, q4, fun v q => nomatch q⟩
  · exact ⟨o1, e1, fun v q => by rw [d1] at q; cases q⟩
  · exact ⟨o2, e2, fun v q => by rw [d2] at q; cases q⟩
section
variable {X : Cx}
/-- the next pair -/
theorem zNext {pins : List (Addr × Obj)} {σ : L2.St} {H : Hp} {s : Shared} {z TI TO i1 i2 a b : Addr} {j : Nat} {xs ys : List V} {x y : V} {E : Value → Shared → Prop} {Q : Option Value → Shared → Prop} (D : ZipApart z TI TO i1 i2 a b) (I : Inv X pins σ H s) (fp : ∀ c ∈ [z, TI, TO, i1, i2], FpOk X pins H c) (q : ZAt s.heap H z TI TO i1 i2 a b j)
    (ha : SqT X.K H a xs) (hb : SqT X.K H b ys) (hx : xs[j]? = some x) (hy : ys[j]? = some y)
    (h : ∀ s' T, H T = none → Inv X pins σ (upd H T (.tup [x, y])) s' → ZAt s'.heap (upd H T (.tup [x, y])) z TI TO i1 i2 a b (j + 1) → (∀ c ∈ [z, TI, TO, i1, i2], upd H T (.tup [x, y]) c = none) → Q (some (.ref T)) s') : wpAny (model X.prog X.w) X.A (pyNext (.ref z)) Q E s := by
  have there := q.lt
  obtain ⟨qTI, q1, q2, ⟨x0, y0, qTO⟩, q5⟩ := q
  obtain ⟨its, rv, p1, _⟩ := I.tuple ha
  obtain ⟨its2, rv2, p2, _⟩ := I.tuple hb
  obtain ⟨u, hu, ru⟩ := rv.get hx
  obtain ⟨u2, hu2, ru2⟩ := rv2.get hy
  have new : H s.heap.objs.size = none := I.hok.fresh (Nat.le_refl _)
  have out : ∀ c ∈ [z, TI, TO, i1, i2], upd H s.heap.objs.size (.tup [x, y]) c = none := fun c hc => by
    obtain ⟨o, e, _⟩ := there c hc
    rw [upd_ne (Nat.ne_of_lt (Heap.lt_size e))]
    exact (fp c hc).1
  have go : ∀ h', IsPair h' s.heap.objs.size u u2 → (∀ c o, c ≠ z → c ≠ TO → c ≠ i1 → c ≠ i2 → s.heap.get? c = some o → h'.get? c = some o) → (∃ v w, IsPair h' TO v w) → h'.IsTupleIter i1 a (j + 1) → h'.IsTupleIter i2 b (j + 1) →
      (∃ T f ps, IsZipHeld h' z TI TO T f ∧ upd H s.heap.objs.size (.tup [x, y]) T = some (.tup ps)) → Q (some (.ref s.heap.objs.size)) { s with heap := h' } := fun h' pr kp to' a1 a2 held => by
    have ob : ObjOk X.prog X.w (upd H s.heap.objs.size (.tup [x, y])) h' s.heap.objs.size (.tup [x, y]) := ⟨by show 2 ≤ sizeLine; decide, [u, u2], .cons ru (.cons ru2 .nil), ⟨_, pr, rfl, _, rfl⟩⟩
    refine h _ _ new (I.turnedNew (t' := s.toks) (ch := [z, TI, TO, i1, i2]) (fun c o hc e => kp c o (fun n => hc (by simp [n])) (fun n => hc (by simp [n])) (fun n => hc (by simp [n])) (fun n => hc (by simp [n])) e) fp (Nat.le_refl _) ob) ⟨kp _ _ D.TIz D.TITO D.TIi1 D.TIi2 qTI, a1, a2, to', .inr held⟩ out
  rcases q5 with qz | ⟨T, f, ps, qz, hT⟩
  · refine pyNext_zipT_item D qz qTI qTO q1 q2 p1 p2 (x := u) (y := u2) (by simpa using hu) (by simpa using hu2) fun h' z' to' a1 a2 pr _ kp => ?_
    exact go h' pr kp ⟨_, _, to'⟩ a1 a2 ⟨_, false, _, z', upd_same⟩
  · obtain ⟨_, _, _, ⟨oT, gT, _⟩⟩ : ObjOk X.prog X.w H s.heap T (.tup ps) := I.hok T _ hT
    refine nextN_item D qz gT qTI q1 q2 p1 p2 (x := u) (y := u2) (by simpa using hu) (by simpa using hu2) fun h' z' a1 a2 pr kp => ?_
    refine go h' pr (fun c o n1 _ n3 n4 e => kp c o n1 n3 n4 e) ⟨_, _, kp _ _ D.TOz D.TOi1 D.TOi2 qTO⟩ a1 a2 ⟨T, true, ps, z', ?_⟩
    rw [upd_ne (fun e => by rw [e, new] at hT; cases hT)]
    exact hT
/-- the end -/
theorem zDone {pins : List (Addr × Obj)} {σ : L2.St} {H : Hp} {s : Shared} {z TI TO i1 i2 a b : Addr} {j : Nat} {xs ys : List V} {E : Value → Shared → Prop} {Q : Option Value → Shared → Prop} (hc : X.calm = true) (D : ZipApart z TI TO i1 i2 a b) (I : Inv X pins σ H s) (fp : ∀ c ∈ [z, TI, TO, i1, i2], FpOk X pins H c) (q : ZAt s.heap H z TI TO i1 i2 a b j)
    (ha : SqT X.K H a xs) (hb : SqT X.K H b ys) (fin : xs.length ≤ j ∨ ys.length ≤ j) (h : ∀ s', Inv X pins σ H s' → Q none s') : wpAny (model X.prog X.w) X.A (pyNext (.ref z)) Q E s := by
  obtain ⟨qTI, q1, q2, ⟨x0, y0, qTO⟩, q5⟩ := q
  obtain ⟨its, rv, p1, _⟩ := I.tuple ha
  obtain ⟨its2, rv2, p2, _⟩ := I.tuple hb
  have n1 := rv.length
  have n2 := rv2.length
  have no : its.toArray[j]? = none ∨ its2.toArray[j]? = none := fin.elim (fun e => .inl (by simp; omega)) fun e => .inr (by simp; omega)
  have go : ∀ h', (∀ c o, c ≠ z → c ≠ TO → c ≠ i1 → c ≠ i2 → s.heap.get? c = some o → h'.get? c = some o) → Q none { s with heap := h' } := fun h' kp => h _ (I.turnedL (t' := s.toks) (ch := [z, TI, TO, i1, i2]) (fun c o hc e => kp c o (fun n => hc (by simp [n])) (fun n => hc (by simp [n])) (fun n => hc (by simp [n])) (fun n => hc (by simp [n])) e) fp)
  rcases q5 with qz | ⟨T, f, ps, qz, hT⟩
  · exact pyNext_zipT_end (I.ok.hd hc) D qz qTI qTO q1 q2 p1 p2 no go
  · obtain ⟨_, _, _, ⟨oT, gT, _⟩⟩ : ObjOk X.prog X.w H s.heap T (.tup ps) := I.hok T _ hT
    exact nextN_end (I.ok.hd hc) D qz gT qTI q1 q2 p1 p2 no fun h' kp => go h' fun c o m1 _ m3 m4 e => kp c o m1 m3 m4 e
theorem pe_lcZ {elt e1 e2 : Expr} {nx : Str} {px pz cpos pos : Pos} {scope : Scope} {own : List (Str × Nat)} {i : Nat} {ta : TA} {te : TE} (hc : X.calm = true) (hN : X.N.Nodup) (hg : Gl X "zip") (hm : X.mg "zip" = none) (ha : PA X [e1, e2] ta) (ok : BlkOk X.N X.env.scope scope own)
    (pg : ∀ (s : Shared) (H : Hp) (C : Addr) (cl : List (Str × Addr)) (fp : List Addr), PG (X.blk s H scope (compEnvC scope cl C X.env) fp) (.Name nx px) (gName i)) (he : ∀ (s : Shared) (H : Hp) (C : Addr) (cl : List (Str × Addr)) (fp : List Addr), PE (X.blk s H scope (compEnvC scope cl C X.env) fp) elt te)
    (st : starEach [e1, e2] X.env = (false, eval e1 X.env) :: starEach [e2] X.env := by rfl) (pl : (backTo cpos (starEach [e2] X.env)).any (·.1) = false := by rfl) (fs : ∀ x, foldedSetIterable (.Call (.Name "zip" pz) [e1, e2] [] cpos) X.env x = pure x := by intro _; rfl) :
    PE X (.ListComp elt [⟨.Name nx px, .Call (.Name "zip" pz) [e1, e2] [] cpos, [], 0⟩] scope pos) (tLcZ X.K ta i te (own.map (·.2))) := by
  refine ⟨fun pins s σ H Q I h => ?_⟩
  rw [eval_ListComp]
  have free : ∀ y ∈ scope.names, y.2 = .free → ∃ c, X.env.cells.lookup y.1 = some c := fun y hy e => (ok.free y hy e).elim (fun k => I.ok.has _ (.inl k)) fun k => I.ok.has _ (.inr k)
  refine wpAny_comprehension_free (use := none) rfl fs (closure_ok free) ok.kind (fun y hy e => by rw [ok.uniq y hy, e]) ?_
  refine Call_ (ld_blt I hg hm PyProof.Rows.boot_zip (PyProof.Rows.callWith_type1 (thn (ha.run cpos pins s σ H _ I h) fun us s1 ⟨vs, H1, I1, r1, q1⟩ => ?_) st pl))
  obtain ⟨a, b, xs, ys, rfl, hx, hy, q⟩ := q1
  cases r1 with
  | cons r rr => cases rr with
    | cons r' rr =>
      cases rr; cases r; cases r'
      obtain ⟨its, rv, p1, _⟩ := I1.tuple hx
      obtain ⟨its2, rv2, p2, _⟩ := I1.tuple hy
      obtain ⟨o1, g1, _⟩ := id p1
      obtain ⟨o2, g2, _⟩ := id p2
      refine call_zipT (show s1.heap.IsTuple a its.toArray from p1) (show s1.heap.IsTuple b its2.toArray from p2) fun h' hz hTI hTO t1 t2 sz1 kp1 => wpAny_pyIter_zip hz ?_
      have D := PySem.W.ktu_apart s1.heap.objs.size a b (Heap.lt_size g1) (Heap.lt_size g2)
      generalize ez : s1.heap.objs.size + 4 = z at hz D
      generalize eTI : s1.heap.objs.size + 2 = TI at hz hTI D
      generalize eTO : s1.heap.objs.size + 3 = TO at hz hTO D
      generalize ei2 : s1.heap.objs.size + 1 = i2 at hTI t2 D
      generalize ei1 : s1.heap.objs.size = i1 at hTI t1 D ez eTI eTO ei2
      have I2 : Inv X pins σ H1 { s1 with heap := h' } := I1.kept (t' := s1.toks) kp1
      have low : ∀ c ∈ [z, TI, TO, i1, i2], s1.heap.objs.size ≤ c ∧ c < h'.objs.size := by
        intro c hc
        simp only [List.mem_cons, List.not_mem_nil, or_false] at hc
        rcases hc with e | e | e | e | e <;> rw [e, sz1] <;> omega
      have ok1 : ∀ c ∈ [z, TI, TO, i1, i2], FpOk X pins H1 c := fun c hc => I1.fpOk (low c hc).1 (I1.hok.fresh (low c hc).1)
      have zt : ZAt h' H1 z TI TO i1 i2 a b 0 := ⟨hTI, t1, t2, ⟨_, _, hTO⟩, .inl hz⟩
      refine wpAny_newObj_type (newEnv_comp ?_) (by show 0 ≤ sizeLine; decide)
      generalize eL : ({ s1 with heap := h' } : Shared).heap.objs.size = L
      have nL : H1 L = none := I2.hok.fresh (Nat.le_of_eq eL)
      obtain ⟨W, w0, keepW, turn, last⟩ := q L nL
      generalize es3 : ({ s1 with heap := h'.push { cls := .type "list", data := .seq ([] : List Value).toArray } } : Shared) = s3
      have h3 : s3.heap = h'.push { cls := .type "list", data := .seq ([] : List Value).toArray } := by rw [← es3]
      have I3 : Inv X pins σ (upd H1 L (.lst [])) s3 := by
        rw [← es3]
        refine I2.laid (t' := s1.toks) (fun c o e => Heap.get?_push_of_some _ e) (Nat.le_of_eq eL) ⟨Nat.zero_le _, [], 0, .nil, ?_⟩
        rw [← eL]
        exact Heap.get?_push_size _ rfl
      have eL' : h'.objs.size = L := eL
      have ok3 : ∀ c ∈ [z, TI, TO, i1, i2], FpOk X pins (upd H1 L (.lst [])) c ∧ c < s3.heap.objs.size := fun c hc => by
        refine ⟨⟨?_, (ok1 c hc).2⟩, by rw [h3, Heap.size_push]; exact Nat.lt_succ_of_lt (low c hc).2⟩
        rw [upd_ne (by rw [← eL']; exact Nat.ne_of_lt (low c hc).2)]
        exact (ok1 c hc).1
      have I4 := block_start I3 ok hN ok3
      have pg4 := pg s3 (upd H1 L (.lst [])) s3.heap.objs.size (cellsFrom (s3.heap.objs.size + 1) scope.names (cloFrom X.env.cells scope.names [])) [z, TI, TO, i1, i2]
      have pe4 := he s3 (upd H1 L (.lst [])) s3.heap.objs.size (cellsFrom (s3.heap.objs.size + 1) scope.names (cloFrom X.env.cells scope.names [])) [z, TI, TO, i1, i2]
      show codeAny _ _ (.compStart (.ListComp elt [⟨.Name nx px, .Call (.Name "zip" pz) [e1, e2] [] cpos, [], 0⟩] scope pos) 0 (.ref z) (.ref L) (compEnvC scope (cellsFrom (s3.heap.objs.size + 1) scope.names (cloFrom X.env.cells scope.names [])) s3.heap.objs.size X.env)) (compPost (model X.prog X.w) X.A X.xe none (EP X pins σ Q) (.ref L) s3.heap.objs.size) { s3 with heap := pushCells (s3.heap.push { cls := .type "dict", data := .dict #[] }) scope.names }
      have nfp : ∀ c ∈ [z, TI, TO, i1, i2], (upd H1 L (.lst [])) c = none := fun c hc => (ok3 c hc).1.1
      have tups : ∀ c ps, H1 c = some (.tup ps) → upd H1 L (.lst []) c = some (.tup ps) := fun c ps e => by rw [upd_ne (fun n => by rw [n, nL] at e; cases e)]; exact e
      generalize ece : compEnvC scope (cellsFrom (s3.heap.objs.size + 1) scope.names (cloFrom X.env.cells scope.names [])) s3.heap.objs.size X.env = ce at I4 pg4 pe4 ⊢
      have cL : ce.locals = s3.heap.objs.size := by rw [← ece]; rfl
      generalize upd H1 L (.lst []) = H3 at I3 I4 pg4 pe4 w0 nfp ok3 tups
      generalize es4 : ({ s3 with heap := pushCells (s3.heap.push { cls := .type "dict", data := .dict #[] }) scope.names } : Shared) = s4 at I4 ⊢
      have k4 : ∀ c o, h'.get? c = some o → s4.heap.get? c = some o := fun c o e => by rw [← es4]; exact pushCells_keeps _ _ _ _ (Heap.get?_push_of_some _ (by rw [h3]; exact Heap.get?_push_of_some _ e))
      have z4 : ZAt s4.heap H3 z TI TO i1 i2 a b 0 := zt.keep (fun c _ o e => k4 c o e) tups
      have stat : ∀ {σ' : L2.St} {H' : Hp} {s' : Shared}, Inv (X.blk s3 H3 scope ce [z, TI, TO, i1, i2]) [] σ' H' s' → (∀ c ∈ [z, TI, TO, i1, i2], H' c = none) → ∀ c ∈ [z, TI, TO, i1, i2], FpOk (X.blk s3 H3 scope ce [z, TI, TO, i1, i2]) [] H' c := fun {σ' H' s'} J hn c hc =>
        ⟨hn c hc, (J.ok.exf c hc).1, J.ok.exfs c hc, .inl hc, fun x d e => (J.ok.exf c hc).2 x d e, fun p hp => absurd (show p ∈ ([] : List (Addr × Obj)) ++ [] from hp) (by simp)⟩
      have loop : codeAny (model X.prog X.w) X.A (.compLoop (.ListComp elt [⟨.Name nx px, .Call (.Name "zip" pz) [e1, e2] [] cpos, [], 0⟩] scope pos) 0 (.ref z) (.ref L) ce) (compPost (model X.prog X.w) X.A X.xe none (EP X pins σ Q) (.ref L) s3.heap.objs.size) s4 := by
        refine compLoop_any (fun n s' => ∃ j H', n + j = min xs.length ys.length ∧ Inv (X.blk s3 H3 scope ce [z, TI, TO, i1, i2]) [] (wipe σ (own.map (·.2))) H' s' ∧ ZAt s'.heap H' z TI TO i1 i2 a b j ∧ (∀ c ∈ [z, TI, TO, i1, i2], H' c = none) ∧ W j H') ?_ _ ⟨0, H3, rfl, I4, z4, nfp, w0⟩
        rintro n s5 ⟨j, H5, ej, I5, z5, n5, w5⟩
        obtain ⟨x5, y5⟩ := keepW j H5 w5
        by_cases e : n = 0
        · refine zDone (X := X.blk s3 H3 scope ce [z, TI, TO, i1, i2]) hc D I5 (stat I5 n5) z5 x5 y5 (by omega) fun s6 I6 => ?_
          have I7 : Inv X pins σ H5 s6 := I3.call' (ch := [z, TI, TO, i1, i2]) I6.os I6.base I6.hok I6.bare fun c hc => ⟨(ok3 c hc).1.2.2.2.1, (ok3 c hc).1.2.1, (ok3 c hc).1.2.2.2.2.1, (ok3 c hc).1.2.2.2.2.2⟩
          have nC : H5 s3.heap.objs.size = none := by rw [← cL]; exact I6.free
          obtain ⟨m, hn, _⟩ := I6.loc
          have hn : s6.heap.Ns ce.locals m := hn
          rw [cL] at hn
          obtain ⟨f0, f1, f2, f3, f4, f5⟩ := I3.fpOk (Nat.le_refl _) nC
          have jm : j = min xs.length ys.length := by omega
          rw [jm] at w5
          exact ⟨m, hn, fun h'' sb => ⟨.ref L, H5, I7.turned (t' := s6.toks) (fun c o hc e => (sb.2 c hc).trans e) f0 f1 f3 f4 f5, rfl, last H5 w5⟩⟩
        · have jx : j < xs.length := by omega
          have jy : j < ys.length := by omega
          refine zNext (X := X.blk s3 H3 scope ce [z, TI, TO, i1, i2]) D I5 (stat I5 n5) z5 x5 y5 (List.getElem?_eq_getElem jx) (List.getElem?_eq_getElem jy) fun s6 T nT I6 z6 n6 => ?_
          have J6 := I6.pinned (stat I6 n6) z6.lt
          refine wpAny_pure ?_
          refine thnF (pg4.run _ s6 _ _ (.ref T) (.ref T) _ J6 rfl (turn j _ _ H5 T w5 (List.getElem?_eq_getElem jx) (List.getElem?_eq_getElem jy) nT)) fun _ s8 ⟨σ8, H8, I8, hw8, q8⟩ => ?_
          refine thnF ((pts_nil (X := X.blk s3 H3 scope ce [z, TI, TO, i1, i2])).run _ s8 σ8 H8 (fun b H' => b = true ∧ H' = H8) I8 ⟨rfl, rfl⟩) fun bb s9 ⟨H9, I9, eb, eH⟩ => ?_
          subst eb eH
          simp only [if_true]
          refine thnF (pe4.run _ s9 σ8 _ _ I9 q8) fun v s10 ⟨yv, H10, I10, r10, acc, hA, hz10, ht10, w'⟩ => ?_
          refine app_ok (X := X.blk s3 H3 scope ce [z, TI, TO, i1, i2]) I10 hA hz10 r10 fun s11 I11 => ?_
          have pin' : ∀ c ∈ [z, TI, TO, i1, i2], ∀ o, s6.heap.get? c = some o → s11.heap.get? c = some o ∧ upd H10 L (.lst (acc ++ [yv])) c = none := fun c hc o e =>
            let u := I11.pin (c, o) (List.mem_append_right _ (List.mem_append_right _ (mem_pinsAt hc e)))
            ⟨u.1, u.2.1⟩
          have hl : (wipe σ (own.map (·.2))).length = σ8.length := by rw [← hw8, wipe_length]
          refine ⟨n - 1, by omega, j + 1, _, by omega, (I11.unpinned (pins := [])).weak hl (fun u v e => ?_), z6.keep (fun c hc o e => (pin' c hc o e).1) (fun c ps e => ?_), fun c hc => ?_, w'⟩
          · rw [← hw8] at e
            exact (wipe_some e).1
          · have e' := ht10 c ps e
            rw [upd_ne (fun n => by rw [n, hA] at e'; cases e')]
            exact e'
          · obtain ⟨o, e, _⟩ := z6.lt c hc
            exact (pin' c hc o e).2
      exact codeAny_compStart_list loop (wpAny_pyIter_zip (k4 _ _ hz) loop)
end
end Ft

set_option Elab.async false
set_option linter.all false
set_option maxRecDepth 100000
set_option maxHeartbeats 8000000
namespace Ft
open PySem PySem.Spec PyProof.Rows L2
theorem atI_end {α : Type} {xs : List α} {v : α} (h : xs[xs.length - 1]? = some v) : atI xs (-1) = some v := by
  have hj := (List.getElem?_eq_some_iff.mp h).1
  obtain ⟨l, z, rfl⟩ : ∃ l z, xs = l ++ [z] := ⟨xs.dropLast, xs.getLast (by intro e; rw [e] at hj; simp at hj), (List.dropLast_concat_getLast _).symm⟩
  have e : v = z := by simpa using h.symm
  rw [e]
  exact atI_last l z
theorem cutG_inner {α : Type} {l : List α} : cutG l (some 1) (some (-1)) = (l.drop 1).take (l.length - 2) := by
  unfold cutG
  have e1 : HT.sIx l.length 0 (some 1) = min 1 l.length := HT.sIx_nat _ _ 1
  have e2 : HT.sIx l.length l.length (some (-1)) = l.length - 1 := by
    show (if (-1 : Int) < 0 then ((-1 : Int) + (l.length : Int)).toNat else min (-1 : Int).toNat l.length) = l.length - 1
    rw [if_pos (by omega)]
    omega
  rw [e1, e2]
  cases l with
  | nil => rfl
  | cons a l =>
    have e3 : min 1 (a :: l).length = 1 := by rw [List.length_cons]; omega
    rw [e3]
    rfl
theorem cutG_map {α β : Type} (f : α → β) (l : List α) (lo hi : Option Int) : cutG (l.map f) lo hi = (cutG l lo hi).map f := by
  unfold cutG
  rw [List.length_map, List.map_take, List.map_drop]
theorem getD_at {l : List Nat} {i : Nat} (h : i < l.length) : l[i]? = some (l.getD i 0) := by
  rw [List.getD_eq_getElem?_getD, List.getElem?_eq_getElem h]
  rfl
/-! ### ways, of data -/
def stepB (rs : List (Nat × Nat)) (l : List Nat) (i : Nat) : Bool := decide ((l.getD i 0, l.getD (i + 1) 0) ∈ rs)
def wayLB (C : Chart) (S l : List Nat) : Bool := decide (2 ≤ l.length) && (decide (l.getD 0 0 ∈ S) && (decide (l.getD (l.length - 1) 0 ∈ C.wished) && (!((l.drop 1).take (l.length - 2)).any (fun p => decide (p ∈ C.wished)) && (List.range (l.length - 1)).all (stepB C.roads l))))
def wayD (C : Chart) (S : List Nat) : PyData → Bool
  | .tuple ds => match natsL ds with
    | some l => wayLB C S l
    | none => false
  | _ => false
theorem wayLB_lt {C : Chart} (ok : C.Ok) {S l : List Nat} (h : wayLB C S l = true) : ∀ x ∈ l, x < C.n := by
  unfold wayLB at h
  simp only [Bool.and_eq_true, decide_eq_true_eq, List.all_eq_true, List.mem_range] at h
  obtain ⟨h2, _, _, _, hs⟩ := h
  intro x hx
  obtain ⟨i, hi⟩ := List.getElem?_of_mem hx
  have il := (List.getElem?_eq_some_iff.mp hi).1
  have ex : l.getD i 0 = x := by rw [List.getD_eq_getElem?_getD, hi]; rfl
  by_cases e : i + 1 < l.length
  · have := hs i (by omega)
    unfold stepB at this
    have := (ok.inR _ (of_decide_eq_true this)).1
    rw [← ex]
    exact this
  · have := hs (i - 1) (by omega)
    unfold stepB at this
    have := (ok.inR _ (of_decide_eq_true this)).2
    rw [show i - 1 + 1 = i by omega] at this
    rw [← ex]
    exact this
/-- the roads of a map as rows of two numbers -/
theorem pairs_ks {K : PySem.W.Frag} {H : Hp} : ∀ {ts : List Addr} {ps : List (Nat × Nat)}, PairsAt K H ts ps → ∃ ks : List (Addr × List Int), ks.map (fun p => V.ref p.1) = ts.map V.ref ∧ ks.map (·.2) = ps.map two ∧ ∀ p ∈ ks, SqT K H p.1 (p.2.map V.int)
  | _, _, .nil => ⟨[], rfl, rfl, fun _ h => nomatch h⟩
  | t :: _, p :: _, .cons r rest => by
    obtain ⟨ks, e1, e2, all⟩ := pairs_ks rest
    refine ⟨(t, two p) :: ks, by rw [List.map_cons, e1]; rfl, by rw [List.map_cons, e2]; rfl, fun q hq => ?_⟩
    rcases List.mem_cons.mp hq with rfl | hq
    · exact r
    · exact all q hq
section
variable {P : Program} {w : World} {K : PySem.W.Frag} {mg : Str → Option Value} {base : Heap} {ca : Str → Addr}
/-! ### is_map -/
def sp_is_map (K : PySem.W.Frag) : Sp := fun vs H Q _ => ∃ (vc : V) (dc : PyData), vs = [vc] ∧ Dp K H vc dc ∧ ∀ H', Same H H' → Q (.bl (mapErr dc).isNone) H'
theorem cal_is_map (T : Txt mg) (D : Def K mg "is_map" s_is_map) (e_Refused : Er P w K mg base ca "Refused") (x_BadMap_Refused : Exm K ca "BadMap" "Refused" true) (x_BadWish_Refused : Exm K ca "BadWish" "Refused" true) (c_made_map : CalX P w K mg base 5 "made_map" (spX_made_map K ca)) : Cal P w K mg base 6 "is_map" (sp_is_map K) := by
  refine cal_of D sc_is_map (fun _ _ _ _ _ _ us hl => match us, hl with | [_], _ => rfl) (fun vs H Q E h => ?_) (fun f cdv A outer s H vs Q E hr h => ?_)
  · obtain ⟨vc, dc, rfl, _⟩ := h
    rfl
  · obtain ⟨vc, dc, rfl, hdc, q⟩ := h
    refine ⟨_, (pss_cons (ps_try_ms rfl rfl sc_is_map.nd takes0 (fun W pn xe tk po => (pss_one (ps_expr (pe_x tk c_made_map hr (by decide) (by rfl) (pa_cons (pv 0) pa_nil))))) (.no ⟨rfl, by decide, .inl (Er.g e_Refused)⟩ (fun a oe cls d pn hz hf => (pss_one (ps_ret pe_bl)))
      .nil))
      (pss_one (ps_ret pe_bl))), ?_⟩
    refine ⟨_, rfl, vc, dc, rfl, hdc, fun em c C c' H1 ev ec ok s1 isC' => ?_, fun x i em d H' v s' hd hv => ?_⟩
    · rw [em] at q
      exact q H1 s1
    · rw [em] at q
      rcases mapErr_name em with rfl | rfl
      · exact ⟨true, x_BadMap_Refused, fun _ a na _ => q H' s', fun h => nomatch h⟩
      · exact ⟨true, x_BadWish_Refused, fun _ a na _ => q H' s', fun h => nomatch h⟩
/-! ### free_fits -/
def freeD (C : Chart) : PyData → Bool
  | .tuple ds => match natsL ds with
    | some l => lotOk C.n (.tuple ds) && !l.any (fun p => decide (p ∈ C.wished))
    | none => false
  | _ => false
def sp_free_fits (K : PySem.W.Frag) : Sp := fun vs H Q _ => ∃ (c : Addr) (C : Chart) (v : V) (d : PyData), vs = [.ref c, v] ∧ IsChart K H c C ∧ C.Ok ∧ Dp K H v d ∧ ∀ H', Same H H' → Q (.bl (freeD C d)) H'
theorem cal_free_fits (T : Txt mg) (D : Def K mg "free_fits" s_free_fits) (c_lot_fits : Cal P w K mg base 4 "lot_fits" (sp_lot_fits K)) : Cal P w K mg base 5 "free_fits" (sp_free_fits K) := by
  refine cal_of D sc_free_fits (fun _ _ _ _ _ _ us hl => match us, hl with | [_, _], _ => rfl) (fun vs H Q E h => ?_) (fun f cdv A outer s H vs Q E hr h => ?_)
  · obtain ⟨c, C, v, d, rfl, _⟩ := h
    rfl
  · obtain ⟨c, C, v, d, rfl, ⟨r, wd, ts, hC⟩, ok, hd, q⟩ := h
    have n60 := ok.n60
    refine ⟨_, (pss_one (ps_ret (pe_and (pe_c c_lot_fits hr (by decide) (by rfl) (pa_cons (pv 0) (pa_cons (pv 1) pa_nil))) (pe_one (pe_not (pe_callB (show CallR _ _ (rAny K) from cr_any rfl) (by rfl) T.any (by decide +kernel) (pa_cons (pe_lc (own := [("place", 2)]) rfl sc_free_fits.nd (show PI _ _ _ (iTup K _) from pi_tup (pv 1)) (blkOk_by (N := ["chart", "thing", "place"]) (sc := L2.defScope s_free_fits) (by decide +kernel)) (fun _ _ _ _ _ => (pg_name (i := 2) sc_free_fits.nd rfl (Or.inl rfl))) (fun _ _ _ _ _ => pts_nil) (fun _ _ _ _ _ => (pe_cmpR (show OpR _ _ (rIn K false) from op_in_seq) (pv 2) (pe_ix (show IxR _ (rIxT K) from ix_tup) (pv 0) pe_int (fun _ _ => rfl)) (by rfl)))) pa_nil))))))), ?_⟩
    refine ⟨_, rfl, _, rfl, c, r, wd, C.n, v, d, rfl, hC.top, hd, fun H1 s1 => ?_⟩
    cases e : lotOk C.n d with
    | false =>
      have no : freeD C d = false := by
        unfold freeD
        split
        · split
          · rw [e]; rfl
          · rfl
        · rfl
      rw [no] at q
      exact ⟨_, rfl, iteF (q H1 s1)⟩
    | true =>
      obtain ⟨ws, rfl, up, lt⟩ := lotOk_is e
      obtain ⟨t, rfl, hT⟩ := lot_dp hd
      have eq : freeD C (lotD ws) = !ws.any (fun p => decide (p ∈ C.wished)) := by
        show (match natsL (ws.map nD) with
          | some l => lotOk C.n (lotD ws) && !l.any (fun p => decide (p ∈ C.wished))
          | none => false) = _
        rw [natsL_map, e]
        rfl
      rw [eq] at q
      have lw := up_len up lt
      refine ⟨_, rfl, iteT ?_⟩
      have hT1 := Same.sqT s1 hT
      have hC1 := hC.keep (Same.kp (ex := []) s1) (lists_nil _)
      refine ⟨_, rfl, t, rfl, ⟨_, hT1⟩, fun g hg => ?_⟩
      have keep : ∀ {H' : Hp}, Kp [g] H1 H' → Same H1 H' := fun {H'} k b o e' => k b o (fun m => by rw [List.mem_singleton.mp m, hg] at e'; cases e') e'
      refine lc_tup (K := K) (a := t) (xs := ws.map vN) (fun j H' => Kp [g] H1 H' ∧ H' g = some (.lst (((ws.take j).map fun p => decide (p ∈ C.wished)).map V.bl))) ⟨(fun b o x e' => by rw [upd_ne (ne_of_none e' hg)]; exact e'), upd_same⟩ (fun j H' _ ⟨k, _⟩ => Same.sqT (keep k) hT1) ?_ ?_
      · rintro j x H2 hx ⟨k2, hG⟩
        obtain ⟨p, hp, rfl⟩ := get_map hx
        have hC2 := hC1.keep (Same.kp (ex := []) (keep k2)) (lists_nil _)
        refine ⟨rfl, ?_⟩
        refine ⟨_, rfl, _, rfl, _, _, _, _, rfl, rfl, hC2.top, rfl, wd, _, rfl, .inr hC2.wis, rfl, all_vN C.wished, ?_⟩
        have jl := (List.getElem?_eq_some_iff.mp hp).1
        refine ⟨_, hG, by rw [List.length_map, List.length_map, List.length_take]; exact small1000 (by omega), ?_, ?_⟩
        · intro b o nb eb
          rw [upd_ne (fun z => nb (by rw [z]; simp))]
          exact k2 b o nb eb
        · rw [upd_same, take_more hp, List.map_append, List.map_append]
          show some (HO.lst (_ ++ [V.bl (inV (vN p) (C.wished.map vN))])) = _
          rw [in_vN]
          rfl
      · rintro H2 ⟨k2, hG⟩
        rw [List.length_map, List.take_length] at hG
        refine ⟨g, _, rfl, .inl (.inl hG), ?_⟩
        refine ⟨_, rfl, ?_⟩
        have e2 : (ws.map fun p => decide (p ∈ C.wished)).any id = ws.any fun p => decide (p ∈ C.wished) := by rw [List.any_map]; rfl
        rw [e2]
        exact q H2 (s1.trans (keep k2))
/-! ### way_fits -/
theorem ways_no {C : Chart} {S : List Nat} {d : PyData} (h : isTup d = false) : wayD C S d = false := by
  cases d <;> first | rfl | cases h
theorem places_all {n : Nat} : ∀ {ds : List PyData}, (ds.map (rngD n)).all id = true → ∃ l : List Nat, ds = l.map nD ∧ ∀ x ∈ l, x < n
  | [], _ => ⟨[], rfl, fun _ h => nomatch h⟩
  | d :: ds, h => by
    rw [List.map_cons, List.all_cons, Bool.and_eq_true] at h
    obtain ⟨i, rfl, hi⟩ := rngD_is (show rngD n d = true from h.1)
    obtain ⟨l, rfl, hl⟩ := places_all h.2
    exact ⟨i :: l, rfl, fun x hx => (List.mem_cons.mp hx).elim (fun e => e ▸ hi) (hl x)⟩
theorem places_map {n : Nat} {l : List Nat} (h : ∀ x ∈ l, x < n) : ((l.map nD).map (rngD n)).all id = true := by
  rw [List.all_map, List.all_map, List.all_eq_true]
  intro x hx
  exact rngD_nat (h x hx)
theorem way_short {C : Chart} {S : List Nat} {ds : List PyData} (h : ds.length < 2) : wayD C S (.tuple ds) = false := by
  unfold wayD
  simp only
  cases e : natsL ds with
  | none => rfl
  | some l =>
    have el := natsL_some e
    rw [el, List.length_map] at h
    simp only
    unfold wayLB
    rw [decide_eq_false (by omega)]
    rfl
theorem way_off {C : Chart} (ok : C.Ok) {S : List Nat} {ds : List PyData} (h : (ds.map (rngD C.n)).all id = false) : wayD C S (.tuple ds) = false := by
  unfold wayD
  simp only
  cases e : natsL ds with
  | none => rfl
  | some l =>
    have el := natsL_some e
    simp only
    cases e2 : wayLB C S l with
    | false => rfl
    | true =>
      rw [el, places_map (wayLB_lt ok e2)] at h
      cases h
theorem way_nats {C : Chart} {S l : List Nat} : wayD C S (.tuple (l.map nD)) = wayLB C S l := by
  unfold wayD
  simp only
  rw [natsL_map]
def sp_way_fits (K : PySem.W.Frag) : Sp := fun vs H Q _ => ∃ (c lo : Addr) (C : Chart) (S : List Nat) (v : V) (d : PyData), vs = [.ref c, .ref lo, v] ∧ IsChart K H c C ∧ C.Ok ∧ C.roads.length < 64 ∧ SqT K H lo (S.map vN) ∧ Dp K H v d ∧ Fine d ∧ ∀ H', Same H H' → Q (.bl (wayD C S d)) H'
theorem cal_way_fits (T : Txt mg) (D : Def K mg "way_fits" s_way_fits) (c_place_fits : Cal P w K mg base 3 "place_fits" (sp_place_fits K)) : Cal P w K mg base 4 "way_fits" (sp_way_fits K) := by
  refine cal_of D sc_way_fits (fun _ _ _ _ _ _ us hl => match us, hl with | [_, _, _], _ => rfl) (fun vs H Q E h => ?_) (fun f cdv A outer s H vs Q E hr h => ?_)
  · obtain ⟨c, lo, C, S, v, d, rfl, _⟩ := h
    rfl
  · obtain ⟨c, lo, C, S, v, d, rfl, ⟨r, wd, ts, hC⟩, ok, few, hS, hd, fine, q⟩ := h
    have n60 := ok.n60
    have hU := hr.units
    refine ⟨_, (pss_cons (ps_if (PW.pt (pw_or (pt_not (pt_val (pe_callB (show CallR _ _ (rIsi K) from call_isi) (by rfl) T.isinstance (by decide +kernel) (pa_cons (pv 2) (pa_cons (pe_bltn (v := .ty "tuple") (u := .type "tuple") (by rfl) T.tuple (by decide +kernel) rfl) pa_nil))))) (pw_or (pt_cmpR op_lt (pe_callB (show CallR _ _ (rLenS K) from call_lenS) (by rfl) T.len (by decide +kernel) (pa_cons (pv 2) pa_nil)) pe_int (nomark _)) (pw_or1 (pt_not (pt_val (pe_callB (show CallR _ _ (rAll K) from cr_all rfl) (by rfl) T.all (by decide +kernel) (pa_cons (pe_lc (own := [("place", 6)]) rfl sc_way_fits.nd (show PI _ _ _ (iTup K _) from pi_tup (pv 2)) (blkOk_by (N := ["chart", "lot", "thing", "wished", "roads", "road", "place"]) (sc := L2.defScope s_way_fits) (by decide +kernel)) (fun _ _ _ _ _ => (pg_name (i := 6) sc_way_fits.nd rfl (Or.inl rfl))) (fun _ _ _ _ _ => pts_nil) (fun _ _ _ _ _ => (pe_c c_place_fits hr (by decide) (by rfl) (pa_cons (pv 0) (pa_cons (pv 6) pa_nil))))) pa_nil)))))))) (pss_one (ps_ret pe_bl)) pss_nil)
      (pss_cons (ps_set (i := 3) sc_way_fits.nd rfl (Or.inr rfl) (pe_callTy (show CallR _ _ (rSetI K w) from cr_setI rfl) (by rfl) T.set (by decide +kernel) (pa_cons (pe_ix (show IxR _ (rIxT K) from ix_tup) (pv 0) pe_int (fun _ _ => rfl)) pa_nil)))
      (pss_cons (ps_if (PW.pt (pw_or (pt_cmpR (show OpR _ _ (rIn K true) from op_notIn_seq) (pe_ix (show IxR _ (rIxT K) from ix_tup) (pv 2) pe_int (fun _ _ => rfl)) (pv 1) (by rfl)) (pw_or (pt_cmpR (show OpR _ _ (rSNotIn w) from or_snotin) (pe_ix (show IxR _ (rIxT K) from ix_tup) (pv 2) (pe_un un_neg pe_int) (fun _ _ => rfl)) (pv 3) (by rfl)) (pw_or1 (pt_val (pe_callB (show CallR _ _ (rAny K) from cr_any rfl) (by rfl) T.any (by decide +kernel) (pa_cons (pe_lc (own := [("place", 6)]) rfl sc_way_fits.nd (show PI _ _ _ (iTup K _) from pi_tup (pe_slice (show SlR _ (rSlA K) from sl_tupA) (pv 2) (po_some pe_int) (po_some (pe_un un_neg pe_int)))) (blkOk_by (N := ["chart", "lot", "thing", "wished", "roads", "road", "place"]) (sc := L2.defScope s_way_fits) (by decide +kernel)) (fun _ _ _ _ _ => (pg_name (i := 6) sc_way_fits.nd rfl (Or.inl rfl))) (fun _ _ _ _ _ => pts_nil) (fun _ _ _ _ _ => (pe_cmpR (show OpR _ _ (rSIn w) from or_sin) (pv 6) (pv 3) (by rfl)))) pa_nil))))))) (pss_one (ps_ret pe_bl)) pss_nil)
      (pss_cons (ps_set (i := 4) sc_way_fits.nd rfl (Or.inr rfl) (pe_callTy (show CallR _ _ (rSetTT K P w) from cr_setTT rfl hU) (by rfl) T.set (by decide +kernel) (pa_cons (pe_ix (show IxR _ (rIxT K) from ix_tup) (pv 0) pe_int (fun _ _ => rfl)) pa_nil)))
      (pss_one (ps_ret (pe_callB (show CallR _ _ (rAll K) from cr_all rfl) (by rfl) T.all (by decide +kernel) (pa_cons (pe_lcZ (own := [("road", 5)]) rfl sc_way_fits.nd (by rfl) T.zip (pa_cons (pv 2) (pa_cons (pe_slice (show SlR _ (rSlA K) from sl_tupA) (pv 2) (po_some pe_int) po_none) pa_nil)) (blkOk_by (N := ["chart", "lot", "thing", "wished", "roads", "road", "place"]) (sc := L2.defScope s_way_fits) (by decide +kernel)) (fun _ _ _ _ _ => (pg_name (i := 5) sc_way_fits.nd rfl (Or.inl rfl))) (fun _ _ _ _ _ => (pe_cmpR (show OpR _ _ (rTIn K P w false) from or_tin hU) (pv 5) (pv 4) (by rfl)))) pa_nil)))))))), ?_⟩
    refine ⟨_, rfl, _, _, _, _, isTup d, rfl, .ty "tuple", isi_dp hd, kit_tup d, isTup d, rfl, ?_⟩
    cases e : isTup d with
    | false =>
      rw [ways_no e] at q
      exact iteT (iteT (q H fun _ _ h => h))
    | true =>
      obtain ⟨ds, rfl⟩ := isTup_is e
      obtain ⟨t, xs, rfl, hT, hD⟩ := dp_tup hd
      have lx : xs.length = ds.length := dpAll_length hD
      have l2000 := fine.len
      refine iteF ?_
      refine ⟨_, rfl, _, _, rfl, .inr hT, _, _, rfl, rfl, _, rfl, ite_any (fun h2 => ?_) (fun h2 => ?_)⟩
      · have : ds.length < 2 := by
          have := of_decide_eq_true h2
          omega
        rw [way_short this] at q
        exact iteT (q H fun _ _ h => h)
      have tw : 2 ≤ ds.length := by
        have := of_decide_eq_false h2
        omega
      refine ⟨_, rfl, t, rfl, ⟨_, hT⟩, fun g hg => ?_⟩
      have keep : ∀ {H' : Hp}, Kp [g] H H' → Same H H' := fun {H'} k b o e' => k b o (fun m => by rw [List.mem_singleton.mp m, hg] at e'; cases e') e'
      refine lc_tup (K := K) (a := t) (xs := xs) (fun j H' => Kp [g] H H' ∧ H' g = some (.lst (((ds.take j).map (rngD C.n)).map V.bl))) ⟨(fun b o x e' => by rw [upd_ne (ne_of_none e' hg)]; exact e'), upd_same⟩ (fun j H' _ ⟨k, _⟩ => Same.sqT (keep k) hT) ?_ ?_
      · rintro j x H2 hx ⟨k2, hG⟩
        obtain ⟨dx, hdx, px⟩ := dpAll_get hD hx
        have hC2 := hC.keep (Same.kp (ex := []) (keep k2)) (lists_nil _)
        have jl := (List.getElem?_eq_some_iff.mp hdx).1
        refine ⟨rfl, ?_⟩
        refine ⟨_, rfl, _, rfl, c, C.n, x, dx, r, wd, rfl, hC2.top, Dp.same (keep k2) px, ?_⟩
        refine ⟨_, hG, by rw [List.length_map, List.length_map, List.length_take, sizeLine_eq]; omega, ?_, ?_⟩
        · intro b o nb eb
          rw [upd_ne (fun z => nb (by rw [z]; simp))]
          exact k2 b o nb eb
        · rw [upd_same, take_more hdx, List.map_append, List.map_append]
          rfl
      rintro H2 ⟨k2, hG⟩
      rw [lx, List.take_length] at hG
      have s2 := keep k2
      refine ⟨g, _, rfl, .inl (.inl hG), _, rfl, ?_⟩
      cases e3 : (ds.map (rngD C.n)).all id with
      | false =>
        rw [way_off ok e3] at q
        exact iteT (q H2 s2)
      | true =>
        refine iteF ?_
        obtain ⟨l, rfl, inL⟩ := places_all e3
        have ex := nats_dp hD
        subst ex
        rw [way_nats] at q
        rw [List.length_map] at tw l2000
        have hC2 := hC.keep (Same.kp (ex := []) s2) (lists_nil _)
        have lenW : (iN C.wished).length ≤ 1000 := by
          rw [iN_length]
          have := up_len ok.upW ok.inW
          omega
        refine ⟨_, rfl, _, _, _, _, rfl, rfl, hC2.top, rfl, wd, iN C.wished, rfl, .inr (by rw [← vN_map]; exact hC2.wis), lenW, fun p n0 hp _ => ?_⟩
        have s3 : Same H2 (upd H2 p (SetO w p (fun j => decide (j ∈ iN C.wished)) n0)) := same_upd hp
        have hP3 : (upd H2 p (SetO w p (fun j => decide (j ∈ iN C.wished)) n0)) p = some (SetO w p (fun j => decide (j ∈ iN C.wished)) n0) := upd_same
        generalize upd H2 p (SetO w p (fun j => decide (j ∈ iN C.wished)) n0) = H3 at s3 hP3
        have hC3 := hC2.keep (Same.kp (ex := []) s3) (lists_nil _)
        have s03 := s2.trans s3
        have hT3 := Same.sqT s03 hT
        have hS3 := Same.sqT s03 hS
        refine ⟨_, rfl, _, _, _, _, rfl, rfl, hT3, atI_nat (j := 0) (v := vN (l.getD 0 0)) (by rw [List.getElem?_map, getD_at (by omega)]; rfl), _, rfl, lo, _, rfl, .inr hS3, rfl, all_vN S, _, rfl, ?_⟩
        show if (!inV (vN (l.getD 0 0)) (S.map vN)) = true then _ else _
        rw [in_vN]
        by_cases h0 : l.getD 0 0 ∈ S
        · rw [decide_eq_true h0]
          refine iteF ?_
          refine ⟨_, rfl, _, rfl, _, _, _, _, rfl, rfl, hT3, atI_end (v := vN (l.getD (l.length - 1) 0)) (by rw [List.length_map, List.getElem?_map, getD_at (by omega)]; rfl), _, rfl, _, _, _, _, rfl, rfl, hP3, _, rfl, ?_⟩
          have eW : decide (((l.getD (l.length - 1) 0 : Nat) : Int) ∈ iN C.wished) = decide (l.getD (l.length - 1) 0 ∈ C.wished) := decide_eq_decide.mpr iN_mem
          rw [eW]
          by_cases h1 : l.getD (l.length - 1) 0 ∈ C.wished
          · rw [decide_eq_true h1]
            refine iteF ?_
            refine ⟨_, rfl, _, rfl, _, rfl, _, rfl, slA_of hT3 fun b H4 s4 hB => ?_⟩
            rw [cutG_inner, List.length_map, ← List.map_drop, ← List.map_take] at hB
            have hP4 := s4 _ _ hP3
            refine ⟨b, rfl, ⟨_, hB⟩, fun g2 hg2 => ?_⟩
            have keep2 : ∀ {H' : Hp}, Kp [g2] H4 H' → Same H4 H' := fun {H'} k b o e' => k b o (fun m => by rw [List.mem_singleton.mp m, hg2] at e'; cases e') e'
            obtain ⟨I, eI⟩ : ∃ I, (l.drop 1).take (l.length - 2) = I := ⟨_, rfl⟩
            rw [eI] at hB
            have lI : I.length ≤ 2000 := by rw [← eI, List.length_take]; omega
            refine lc_tup (K := K) (a := b) (xs := I.map vN) (fun j H' => Kp [g2] H4 H' ∧ H' g2 = some (.lst (((I.take j).map fun p => decide (p ∈ C.wished)).map V.bl))) ⟨(fun b o x e' => by rw [upd_ne (ne_of_none e' hg2)]; exact e'), upd_same⟩ (fun j H' _ ⟨k, _⟩ => Same.sqT (keep2 k) hB) ?_ ?_
            · rintro j x H5 hx ⟨k5, hG5⟩
              obtain ⟨pl, hpl, rfl⟩ := get_map hx
              have jl := (List.getElem?_eq_some_iff.mp hpl).1
              refine ⟨rfl, ?_⟩
              refine ⟨_, rfl, _, rfl, _, _, _, _, rfl, rfl, keep2 k5 _ _ hP4, ?_⟩
              refine ⟨_, hG5, by rw [List.length_map, List.length_map, List.length_take, sizeLine_eq]; omega, ?_, ?_⟩
              · intro b' o nb eb
                rw [upd_ne (fun z => nb (by rw [z]; simp))]
                exact k5 b' o nb eb
              · rw [upd_same, take_more hpl, List.map_append, List.map_append]
                have e1 : decide (((pl : Nat) : Int) ∈ iN C.wished) = decide (pl ∈ C.wished) := decide_eq_decide.mpr iN_mem
                show some (HO.lst (_ ++ [V.bl (decide (((pl : Nat) : Int) ∈ iN C.wished))])) = _
                rw [e1]
                rfl
            rintro H5 ⟨k5, hG5⟩
            rw [List.length_map, List.take_length] at hG5
            have s5 := keep2 k5
            refine ⟨g2, _, rfl, .inl (.inl hG5), _, rfl, ?_⟩
            have e2 : (I.map fun p => decide (p ∈ C.wished)).any id = I.any fun p => decide (p ∈ C.wished) := by rw [List.any_map]; rfl
            rw [e2]
            have s05 := s03.trans (s4.trans s5)
            cases e4 : I.any fun p => decide (p ∈ C.wished) with
            | true =>
              have no : wayLB C S l = false := by
                unfold wayLB
                rw [eI, e4]
                simp
              rw [no] at q
              exact iteT (q H5 s05)
            | false =>
              refine iteF ?_
              have hC5 := hC.keep (Same.kp (ex := []) s05) (lists_nil _)
              have hT5 := Same.sqT s05 hT
              obtain ⟨ks, ek1, ek2, allK⟩ := pairs_ks hC5.prs
              have lk : ks.length = C.roads.length := by
                have := congrArg List.length ek2
                rwa [List.length_map, List.length_map] at this
              refine ⟨_, rfl, _, _, _, _, rfl, rfl, hC5.top, rfl, r, ks, rfl, (by rw [ek1]; exact hC5.row), allK, (by rw [lk]; exact few), fun sa L hsa subL allL => ?_⟩
              have inL : ∀ z : Nat × Nat, two z ∈ L.map (·.2) ↔ z ∈ C.roads := fun z => by
                constructor
                · intro hz
                  obtain ⟨q1, hq1, e⟩ := List.mem_map.mp hz
                  have h3 : q1.2 ∈ ks.map (·.2) := List.mem_map.mpr ⟨q1, subL q1 hq1, rfl⟩
                  rw [ek2] at h3
                  obtain ⟨y, hy, e2⟩ := List.mem_map.mp h3
                  rw [two_inj (e2.trans e)] at hy
                  exact hy
                · intro hz
                  have h3 : two z ∈ ks.map (·.2) := by rw [ek2]; exact List.mem_map.mpr ⟨z, hz, rfl⟩
                  obtain ⟨q1, hq1, e⟩ := List.mem_map.mp h3
                  rw [← e]
                  exact allL q1 hq1
              have s6 : Same H5 (upd H5 sa (SetTO P w sa L)) := same_upd hsa
              have hSA : (upd H5 sa (SetTO P w sa L)) sa = some (SetTO P w sa L) := upd_same
              generalize upd H5 sa (SetTO P w sa L) = H6 at s6 hSA
              have hT6 := Same.sqT s6 hT5
              have allL6 : ∀ q1 ∈ L, SqT K H6 q1.1 (q1.2.map V.int) := fun q1 hq1 => Same.sqT s6 (allK q1 (subL q1 hq1))
              refine ⟨_, rfl, _, rfl, _, rfl, no_part (slA_of hT6 fun b2 H7 s7 hB2 => ?_)⟩
              rw [show (some (1 : Int)) = some ((1 : Nat) : Int) from rfl, cutG_drop, ← List.map_drop] at hB2
              have hT7 := Same.sqT s7 hT6
              refine ⟨t, b2, _, _, rfl, hT7, hB2, fun D hD => ?_⟩
              have keep3 : ∀ {H' : Hp}, Kp [D] H7 H' → Same H7 H' := fun {H'} k b o e' => k b o (fun m => by rw [List.mem_singleton.mp m, hD] at e'; cases e') e'
              refine ⟨fun j H' => Kp [D] H7 H' ∧ H' D = some (.lst (((List.range j).map (stepB C.roads l)).map V.bl)), ⟨(fun b o x e' => by rw [upd_ne (ne_of_none e' hD)]; exact e'), upd_same⟩, fun j H' ⟨k, _⟩ => ⟨Same.sqT (keep3 k) hT7, Same.sqT (keep3 k) hB2⟩, ?_, ?_⟩
              · rintro j x y H8 T8 ⟨k8, hD8⟩ hx hy nT
                obtain ⟨xn, hxn, rfl⟩ := get_map hx
                obtain ⟨yn, hyn, rfl⟩ := get_map hy
                have jl := (List.getElem?_eq_some_iff.mp hxn).1
                have ex : l.getD j 0 = xn := by rw [List.getD_eq_getElem?_getD, hxn]; rfl
                have ey : l.getD (j + 1) 0 = yn := by
                  rw [List.getElem?_drop, Nat.add_comm] at hyn
                  rw [List.getD_eq_getElem?_getD, hyn]
                  rfl
                have nDT : D ≠ T8 := ne_of_none hD8 nT
                have s8 : Same H8 (upd H8 T8 (.tup [vN xn, vN yn])) := same_upd nT
                refine ⟨rfl, ?_⟩
                refine ⟨_, rfl, _, rfl, T8, sa, two (xn, yn), L, rfl, rfl, .inl (.inl upd_same), s8 _ _ (keep3 k8 _ _ (s7 _ _ hSA)), fun q1 hq1 => Same.sqT s8 (Same.sqT (keep3 k8) (Same.sqT s7 (allL6 q1 hq1))), ?_⟩
                refine ⟨_, s8 _ _ hD8, by rw [List.length_map, List.length_map, List.length_range, sizeLine_eq]; omega, fun _ _ h => h, ?_, ?_⟩
                · intro b' o nb eb
                  rw [upd_ne (fun z => nb (by rw [z]; simp))]
                  exact s8 _ _ (k8 b' o nb eb)
                · rw [upd_same, List.range_succ, List.map_append, List.map_append]
                  have e1 : decide (two (xn, yn) ∈ L.map (·.2)) = stepB C.roads l j := by
                    unfold stepB
                    rw [ex, ey]
                    exact decide_eq_decide.mpr (inL (xn, yn))
                  show some (HO.lst (_ ++ [V.bl (xor false (decide (two (xn, yn) ∈ L.map (·.2))))])) = _
                  rw [Bool.false_xor, e1]
                  rfl
              · rintro H8 ⟨k8, hD8⟩
                have em : min ((l.map vN).length) (((l.drop 1).map vN).length) = l.length - 1 := by
                  rw [List.length_map, List.length_map, List.length_drop]
                  omega
                rw [em] at hD8
                refine ⟨D, _, rfl, .inl (.inl hD8), ?_⟩
                have e5 : ((List.range (l.length - 1)).map (stepB C.roads l)).all id = (List.range (l.length - 1)).all (stepB C.roads l) := by rw [List.all_map]; rfl
                rw [e5]
                have yes : wayLB C S l = (List.range (l.length - 1)).all (stepB C.roads l) := by
                  unfold wayLB
                  rw [decide_eq_true tw, decide_eq_true h0, decide_eq_true h1, eI, e4]
                  rfl
                rw [← yes]
                exact q H8 (s05.trans (s6.trans (s7.trans (keep3 k8))))
          · rw [decide_eq_false h1]
            have no : wayLB C S l = false := by
              unfold wayLB
              rw [decide_eq_false h1]
              simp
            rw [no] at q
            exact iteT (q H3 s03)
        · rw [decide_eq_false h0]
          have no : wayLB C S l = false := by
            unfold wayLB
            rw [decide_eq_false h0]
            simp
          rw [no] at q
          exact iteT (q H3 s03)
end
end Ft

set_option Elab.async false
set_option linter.all false
set_option maxRecDepth 100000
set_option maxHeartbeats 4000000
/-! name = {..: .. for ..} on one line, the name a local one -/
namespace Ft
open PySem PySem.Spec PyProof.Rows L2
theorem sw_trueD {kx vx : Expr} {gs : List Comprehension} {scope : Scope} {pos py : Pos} {y : Str} {l : Nat} {env : Env} (hk : env.scope.kind = .function) (hy : env.scope.names.lookup y = some .local) (hl : (py.line == pos.line) = true) (ha : (scope.names.any fun (n, k) => n == y && (k == .local || k == .cell)) = false) :
    swapsWith (.DictComp kx vx gs scope pos) (some (.Name y py)) l env = pure true := by
  have b : env.blockKind = .function := by unfold Env.blockKind; rw [hk]; rfl
  have k : env.kindOf y = some .local := hy
  unfold swapsWith; simp only [b, k, ha, Expr.pos, hl]; rfl
theorem ps_setDc {X : Cx} {i : Nat} {y : Str} {py pos spos : Pos} {kx vx tg iter : Expr} {ifs : List Expr} {scope : Scope} {own : List (Str × Nat)} {wi : TI} {g : TG} {tt : TT} {tk tv : TE} (hc : X.calm = true) (hN : X.N.Nodup) (hy : X.N[i]? = some y) (hyl : X.env.scope.names.lookup y = some .local)
    (hsw : swapsWith (.DictComp kx vx [⟨tg, iter, ifs, 0⟩] scope pos) (some (.Name y py)) spos.line X.env = pure true) (hi : PI X tg iter wi) (ok : BlkOk X.N X.env.scope scope own)
    (pg : ∀ (s : Shared) (H : Hp) (C : Addr) (cl : List (Str × Addr)) (fp : List Addr), PG (X.blk s H scope (compEnvC scope cl C X.env) fp) tg g) (pt : ∀ (s : Shared) (H : Hp) (C : Addr) (cl : List (Str × Addr)) (fp : List Addr), PTs (X.blk s H scope (compEnvC scope cl C X.env) fp) ifs tt)
    (pk : ∀ (s : Shared) (H : Hp) (C : Addr) (cl : List (Str × Addr)) (fp : List Addr), PE (X.blk s H scope (compEnvC scope cl C X.env) fp) kx tk) (pv : ∀ (s : Shared) (H : Hp) (C : Addr) (cl : List (Str × Addr)) (fp : List Addr), PE (X.blk s H scope (compEnvC scope cl C X.env) fp) vx tv)
    (hs : ∀ x, foldedSetIterable iter X.env x = pure x := by intro _; rfl) : PS X (.Assign [.Name y py] (.DictComp kx vx [⟨tg, iter, ifs, 0⟩] scope pos) spos) (tAsg (tDc wi g tt tk tv (own.map (·.2))) (gName i)) := by
  refine ⟨fun pins s σ H D I h => ?_⟩
  rw [exec_Assign_Name_used _ _ _ _ hsw]
  refine wpAny_bind (wpAny_standAt (wpAny_bind (show wpAny _ X.A (do let _ ← comprehension (.DictComp kx vx [⟨tg, iter, ifs, 0⟩] scope pos) scope X.env (firstIterPos [⟨tg, iter, ifs, 0⟩] pos) newDict false (eval iter X.env) (some (assign (.Name y py) X.env))) _ _ s from ?_)))
  refine wpAny_bind (thn (dc_core (Qf := fun _ s' => SP X pins D .next s') hc hN I hi ok pg pt pk pv hs (show tDc wi g tt tk tv (own.map (·.2)) σ H (fun x H1 => gName i x σ H1 D.nx) from h) fun L C s' m H' I' q hn f => ?_) fun _ s' hq => wpAny_pure (wpAny_pure hq))
  refine (show wpAny _ _ (assign (.Name y py) X.env (.ref L)) _ _ _ from wpAny_assign_Name (store_ok2 (v := V.ref L) I' hN hy (.inl hyl) rfl (fun s2 I2 ⟨a, sb, at_⟩ => ?_) (.inr hyl)))
  obtain ⟨f0, f1, f2, f3, f4, f5⟩ := f
  have ne : C ≠ a := at_.elim (fun z => by rw [z]; exact f1) fun z e => f4 y a z e.symm
  exact ⟨m, hn.sameBut sb ne, fun h3 sb3 => ⟨_, H', I2.turned (t' := s2.toks) (fun b o hb e => (sb3.2 b hb).trans e) f0 f1 f3 f4 f5, q⟩⟩
end Ft

set_option Elab.async false
set_option linter.all false
set_option maxRecDepth 100000
set_option maxHeartbeats 8000000
namespace Ft
open PySem PySem.Spec PyProof.Rows L2
/-- whether a place may stand but once behind the firsts of the ways -/
def keptB (C : Chart) (S F : List Nat) (p : Nat) : Bool := !(!decide (p ∈ C.wished) && (decide (p ∈ S) || decide (p ∈ F)))
def behindOf (C : Chart) (S F : List Nat) (ways : List (List Nat)) : List Nat := (ways.map fun l => (l.drop 1).filter (keptB C S F)).flatten
def natsOf : PyData → List Nat
  | .tuple es => (natsL es).getD []
  | _ => []
def judgeB (C : Chart) (S F : List Nat) : PyData → Bool
  | .tuple ds => ds.all (wayD C S) && decide (behindOf C S F (ds.map natsOf)).Nodup
  | _ => false
theorem wayD_is {C : Chart} {S : List Nat} {d : PyData} (h : wayD C S d = true) : ∃ l : List Nat, d = .tuple (l.map nD) ∧ natsOf d = l ∧ wayLB C S l = true := by
  unfold wayD at h
  split at h
  · rename_i ds
    cases e : natsL ds with
    | none => rw [e] at h; cases h
    | some l =>
      rw [e] at h
      refine ⟨l, by rw [natsL_some e], ?_, h⟩
      show (natsL ds).getD [] = l
      rw [e]
      rfl
  · cases h
theorem behind_more {C : Chart} {S F : List Nat} {ways : List (List Nat)} {i : Nat} {l : List Nat} (h : ways[i]? = some l) : behindOf C S F (ways.take (i + 1)) = behindOf C S F (ways.take i) ++ (l.drop 1).filter (keptB C S F) := by
  unfold behindOf
  rw [take_more h, List.map_append, List.flatten_append]
  congr 1
  show ((l.drop 1).filter (keptB C S F) ++ []) = _
  rw [List.append_nil]
theorem behind_sub {C : Chart} {S F : List Nat} {ways : List (List Nat)} (i : Nat) : (behindOf C S F (ways.take i)).Sublist (behindOf C S F ways) := by
  have e : behindOf C S F ways = behindOf C S F (ways.take i) ++ behindOf C S F (ways.drop i) := by
    unfold behindOf
    rw [← List.flatten_append, ← List.map_append, List.take_append_drop]
  rw [e]
  exact List.sublist_append_left _ _
theorem behind_mem {C : Chart} {S F : List Nat} {ways : List (List Nat)} {p : Nat} (h : p ∈ behindOf C S F ways) : keptB C S F p = true ∧ ∃ l ∈ ways, p ∈ l := by
  unfold behindOf at h
  obtain ⟨m, hm, hp⟩ := List.mem_flatten.mp h
  obtain ⟨l, hl, rfl⟩ := List.mem_map.mp hm
  obtain ⟨h1, h2⟩ := List.mem_filter.mp hp
  exact ⟨h2, l, hl, List.mem_of_mem_drop h1⟩
theorem nodup_sub {α : Type} {a b : List α} (s : a.Sublist b) (h : b.Nodup) : a.Nodup := h.sublist s
section
variable {P : Program} {w : World} {K : PySem.W.Frag} {mg : Str → Option Value} {base : Heap} {ca : Str → Addr}
/-! ### ways_fit -/
def sp_ways_fit (K : PySem.W.Frag) : Sp := fun vs H Q _ => ∃ (c lo fr t : Addr) (C : Chart) (S F : List Nat) (xs : List V) (ds : List PyData), vs = [.ref c, .ref lo, .ref fr, .ref t] ∧ IsChart K H c C ∧ C.Ok ∧ C.roads.length < 64 ∧ SqT K H lo (S.map vN) ∧ SqT K H fr (F.map vN) ∧ SqT K H t xs ∧ DpAll K H xs ds ∧ Fine (.tuple ds) ∧ ∀ H', Same H H' → Q (.bl (judgeB C S F (.tuple ds))) H'
theorem cal_ways_fit (T : Txt mg) (D : Def K mg "ways_fit" s_ways_fit) (c_way_fits : Cal P w K mg base 4 "way_fits" (sp_way_fits K)) (c_unwished_of : Cal P w K mg base 2 "unwished_of" (sp_unwished_of K)) : Cal P w K mg base 5 "ways_fit" (sp_ways_fit K) := by
  refine cal_of D sc_ways_fit (fun _ _ _ _ _ _ us hl => match us, hl with | [_, _, _, _], _ => rfl) (fun vs H Q E h => ?_) (fun f cdv A outer s H vs Q E hr h => ?_)
  · obtain ⟨c, lo, fr, t, C, S, F, xs, ds, rfl, _⟩ := h
    rfl
  · obtain ⟨c, lo, fr, t, C, S, F, xs, ds, rfl, ⟨r, wd, ts, hC⟩, ok, few, hS, hF, hT, hD, fine, q⟩ := h
    have n60 := ok.n60
    have hu := hu_of hr
    have lx : xs.length = ds.length := dpAll_length hD
    have l2000 := fine.len
    refine ⟨_, (pss_cons (ps_if (pt_not (pt_val (pe_callB (show CallR _ _ (rAll K) from cr_all rfl) (by rfl) T.all (by decide +kernel) (pa_cons (pe_lc (own := [("thing", 8)]) rfl sc_ways_fit.nd (show PI _ _ _ (iTup K _) from pi_tup (pv 3)) (blkOk_by (N := ["chart", "lot", "free", "things", "shared", "used", "way", "place", "thing"]) (sc := L2.defScope s_ways_fit) (by decide +kernel)) (fun _ _ _ _ _ => (pg_name (i := 8) sc_ways_fit.nd rfl (Or.inl rfl))) (fun _ _ _ _ _ => pts_nil) (fun _ _ _ _ _ => (pe_c c_way_fits hr (by decide) (by rfl) (pa_cons (pv 0) (pa_cons (pv 1) (pa_cons (pv 8) pa_nil)))))) pa_nil)))) (pss_one (ps_ret pe_bl)) pss_nil)
      (pss_cons (ps_setDc (i := 4) (own := [("place", 7)]) rfl sc_ways_fit.nd rfl rfl (sw_trueD rfl rfl rfl (by decide +kernel)) (show PI _ _ _ (iList K _) from pi_list (pe_c c_unwished_of hr (by decide) (by rfl) (pa_cons (pv 0) pa_nil))) (blkOk_by (N := ["chart", "lot", "free", "things", "shared", "used", "way", "place", "thing"]) (sc := L2.defScope s_ways_fit) (by decide +kernel)) (fun _ _ _ _ _ => (pg_name (i := 7) sc_ways_fit.nd rfl (Or.inl rfl))) (fun _ _ _ _ _ => pts_one (PW.pt (pw_or (pt_cmpR (show OpR _ _ (rIn K false) from op_in_seq) (pv 7) (pv 1) (by rfl)) (pw_or1 (pt_cmpR (show OpR _ _ (rIn K false) from op_in_seq) (pv 7) (pv 2) (by rfl)))))) (fun _ _ _ _ _ => (pv 7)) (fun _ _ _ _ _ => pe_bl))
      (pss_cons (ps_set (i := 5) sc_ways_fit.nd rfl (Or.inl rfl) pe_dnewK)
      (pss_cons (ps_for PassesOwn.never rfl (show PI _ _ _ (iTup K _) from pi_tup (pv 3)) (pg_name (i := 6) sc_ways_fit.nd rfl (Or.inl rfl)) (pss_one (ps_for PassesOwn.never rfl (show PI _ _ _ (iTup K _) from pi_tup (pe_slice (show SlR _ (rSlA K) from sl_tupA) (pv 6) (po_some pe_int) po_none)) (pg_name (i := 7) sc_ways_fit.nd rfl (Or.inl rfl)) (pss_cons (ps_if (pt_cmp (pc_din hu (pv 7) (pv 5))) (pss_one (ps_ret pe_bl)) pss_nil)
          (pss_one (ps_if (pt_cmp (pc_dnotin hu (pv 7) (pv 4))) (pss_one (ps_dput hu (pv 5) (pv 7) pe_bl rfl)) pss_nil))))))
      (pss_one (ps_ret pe_bl)))))), ?_⟩
    refine ⟨_, rfl, t, rfl, ⟨_, hT⟩, fun g hg => ?_⟩
    have keep : ∀ {H' : Hp}, Kp [g] H H' → Same H H' := fun {H'} k b o e' => k b o (fun m => by rw [List.mem_singleton.mp m, hg] at e'; cases e') e'
    refine lc_tup (K := K) (a := t) (xs := xs) (fun j H' => Kp [g] H H' ∧ H' g = some (.lst (((ds.take j).map (wayD C S)).map V.bl))) ⟨(fun b o x e' => by rw [upd_ne (ne_of_none e' hg)]; exact e'), upd_same⟩ (fun j H' _ ⟨k, _⟩ => Same.sqT (keep k) hT) ?_ ?_
    · rintro j x H2 hx ⟨k2, hG⟩
      obtain ⟨dx, hdx, px⟩ := dpAll_get hD hx
      have jl := (List.getElem?_eq_some_iff.mp hdx).1
      have hC2 := hC.keep (Same.kp (ex := []) (keep k2)) (lists_nil _)
      refine ⟨rfl, ?_⟩
      refine ⟨_, rfl, _, rfl, _, rfl, c, lo, C, S, x, dx, rfl, ⟨_, _, _, hC2⟩, ok, few, Same.sqT (keep k2) hS, Dp.same (keep k2) px, fine.mem (List.mem_of_getElem? hdx), fun H3 s3 => ?_⟩
      refine ⟨_, s3 _ _ hG, by rw [List.length_map, List.length_map, List.length_take, sizeLine_eq]; omega, ?_, ?_⟩
      · intro b o nb eb
        rw [upd_ne (fun z => nb (by rw [z]; simp))]
        exact s3 _ _ (k2 b o nb eb)
      · rw [upd_same, take_more hdx, List.map_append, List.map_append]
        rfl
    rintro H2 ⟨k2, hG⟩
    rw [lx, List.take_length] at hG
    have s2 := keep k2
    refine ⟨g, _, rfl, .inl (.inl hG), _, rfl, ?_⟩
    have e2 : (ds.map (wayD C S)).all id = ds.all (wayD C S) := by rw [List.all_map]; rfl
    rw [e2]
    cases e3 : ds.all (wayD C S) with
    | false =>
      have no : judgeB C S F (.tuple ds) = false := by
        show (ds.all (wayD C S) && decide (behindOf C S F (ds.map natsOf)).Nodup) = false
        rw [e3]
        rfl
      rw [no] at q
      exact iteT (q H2 s2)
    | true =>
      refine iteF ?_
      have yes : judgeB C S F (.tuple ds) = decide (behindOf C S F (ds.map natsOf)).Nodup := by
        show (ds.all (wayD C S) && decide (behindOf C S F (ds.map natsOf)).Nodup) = _
        rw [e3]
        rfl
      rw [yes] at q
      have hC2 := hC.keep (Same.kp (ex := []) s2) (lists_nil _)
      obtain ⟨ways, ew⟩ : ∃ ways, ds.map natsOf = ways := ⟨_, rfl⟩
      rw [ew] at q
      have allW : ∀ (i : Nat) (l : List Nat), ways[i]? = some l → ∃ a, xs[i]? = some (.ref a) ∧ SqT K H a (l.map vN) ∧ wayLB C S l = true := fun i l hl => by
        rw [← ew] at hl
        obtain ⟨d, hd, rfl⟩ := get_map hl
        obtain ⟨x, hx⟩ : ∃ x, xs[i]? = some x := ⟨_, List.getElem?_eq_getElem (by rw [lx]; exact (List.getElem?_eq_some_iff.mp hd).1)⟩
        obtain ⟨d', hd', px⟩ := dpAll_get hD hx
        have : d' = d := Option.some.inj (hd'.symm.trans hd)
        subst this
        obtain ⟨l, e, en, wl⟩ := wayD_is (List.all_eq_true.mp e3 d' (List.mem_of_getElem? hd'))
        rw [en]
        rw [e] at px
        obtain ⟨a, rfl, ha⟩ := lot_dp px
        exact ⟨a, hx, ha, wl⟩
      have lw : ways.length = xs.length := by rw [← ew, List.length_map, lx]
      refine ⟨_, rfl, c, C, rfl, ⟨_, _, _, hC2⟩, ok, fun u H3 s3 _ hU => ?_⟩
      have hC3 := hC2.keep (Same.kp (ex := []) s3) (lists_nil _)
      have s03 := s2.trans s3
      have hS3 := Same.sqT s03 hS
      have hF3 := Same.sqT s03 hF
      have ulen := unw_len C
      refine ⟨u, rfl, ⟨_, .inl (.inl hU)⟩, fun e he => ?_⟩
      have keepE : ∀ {H' : Hp}, Kp [e] H3 H' → Same H3 H' := fun {H'} k b o e' => k b o (fun m => by rw [List.mem_singleton.mp m, he] at e'; cases e') e'
      let shB : Nat → Bool := fun p => decide (p ∈ S) || decide (p ∈ F)
      refine dc_it (walk_list (K := K) (a := u) (xs := (unw C).map vN)) (fun i H' => Kp [e] H3 H' ∧ H' e = some (.dK (keysOf (((unw C).take i).filter shB))))
        ⟨(fun b o n z => by rw [upd_ne (ne_of_none z he)]; exact z), upd_same⟩ (fun i H' _ ⟨k, _⟩ => .inl (.inl (keepE k _ _ hU))) ?_ ?_
      · rintro i x Hx H4 hi ⟨k4, hE⟩ ⟨rfl, hx⟩
        obtain ⟨p, hp, rfl⟩ := get_map hx
        refine ⟨rfl, ?_⟩
        have s4 := keepE k4
        have fresh : p ∉ ((unw C).take i).filter shB := by
          intro m
          obtain ⟨j', hj', e1⟩ := List.getElem_of_mem (List.mem_filter.mp m).1
          have lt : j' < i := by
            rw [List.length_take] at hj'
            omega
          have e2 : (unw C)[j']? = some p := by
            rw [← e1, List.getElem_take]
            exact List.getElem?_eq_getElem _
          have := up_get (unw_up C) e2 hp lt
          omega
        have step : ((unw C).take (i + 1)).filter shB = ((unw C).take i).filter shB ++ (if shB p then [p] else []) := by
          rw [take_more hp, List.filter_append]
          congr 1
          rw [List.filter_cons, List.filter_nil]
        have put : shB p = true → ∃ kvs k, vN p = kV k ∧ H4 e = some (.dK kvs) ∧ kvs.length < sizeLine ∧ Kp [e] H3 (upd H4 e (.dK (putK kvs k (.bl true)))) ∧ (upd H4 e (.dK (putK kvs k (.bl true)))) e = some (.dK (keysOf (((unw C).take (i + 1)).filter shB))) := fun hb => by
          refine ⟨_, Sum.inl (p : Int), rfl, hE, ?_, ?_, ?_⟩
          · rw [keysOf_len]
            have h1 := List.length_filter_le shB ((unw C).take i)
            have h2 : ((unw C).take i).length ≤ (unw C).length := by rw [List.length_take]; omega
            exact small1000 (by omega)
          · intro x o n e1
            rw [upd_ne (fun z => n (by rw [z]; simp))]
            exact k4 x o n e1
          · rw [upd_same, keysOf_put _ _ fresh, step, if_pos hb]
        refine ⟨_, rfl, _, rfl, lo, _, rfl, .inr (Same.sqT s4 hS3), rfl, all_vN S, _, rfl, ?_⟩
        show if inV (vN p) (S.map vN) = true then _ else _
        rw [in_vN]
        by_cases h1 : p ∈ S
        · rw [decide_eq_true h1]
          refine iteT (iteT ⟨_, rfl, put (by show (decide (p ∈ S) || _) = true; rw [decide_eq_true h1]; rfl)⟩)
        · rw [decide_eq_false h1]
          refine iteF ⟨_, rfl, _, rfl, fr, _, rfl, .inr (Same.sqT s4 hF3), rfl, all_vN F, _, rfl, ?_⟩
          show if inV (vN p) (F.map vN) = true then _ else _
          rw [in_vN]
          by_cases h2 : p ∈ F
          · rw [decide_eq_true h2]
            exact iteT ⟨_, rfl, put (by show (_ || decide (p ∈ F)) = true; rw [decide_eq_true h2, Bool.or_true])⟩
          · rw [decide_eq_false h2]
            refine iteF ⟨k4, ?_⟩
            rw [step, if_neg (by show ¬ (decide (p ∈ S) || decide (p ∈ F)) = true; rw [decide_eq_false h1, decide_eq_false h2]; simp), List.append_nil]
            exact hE
      · rintro H4 ⟨k4, hE⟩
        rw [List.take_of_length_le (by rw [List.length_map]; exact Nat.le_refl _)] at hE
        have s4 := s03.trans (keepE k4)
        obtain ⟨SH, eSH⟩ : ∃ SH, (unw C).filter shB = SH := ⟨_, rfl⟩
        rw [eSH] at hE
        have inSH : ∀ p, p < C.n → ((if p ∈ SH then some (V.bl true) else none) = none ↔ keptB C S F p = true) := fun p hp => by
          have e1 : p ∈ SH ↔ (p ∉ C.wished ∧ (p ∈ S ∨ p ∈ F)) := by
            rw [← eSH, List.mem_filter, unw_mem]
            show (_ ∧ (decide (p ∈ S) || decide (p ∈ F)) = true) ↔ _
            rw [Bool.or_eq_true, decide_eq_true_eq, decide_eq_true_eq]
            exact ⟨fun h => ⟨h.1.2, h.2⟩, fun h => ⟨⟨hp, h.1⟩, h.2⟩⟩
          have e2 : keptB C S F p = true ↔ ¬ (p ∉ C.wished ∧ (p ∈ S ∨ p ∈ F)) := by
            unfold keptB
            rw [Bool.not_eq_true', ← Bool.not_eq_true, Bool.and_eq_true, Bool.or_eq_true, Bool.not_eq_true', decide_eq_false_iff_not, decide_eq_true_eq, decide_eq_true_eq]
          rw [e2, ← e1]
          by_cases h : p ∈ SH
          · rw [if_pos h]
            exact ⟨fun z => (by cases z), fun z => absurd h z⟩
          · rw [if_neg h]
            exact ⟨fun _ => h, fun _ => rfl⟩
        intro ud hud
        have neU : e ≠ ud := ne_of_none hE hud
        have s5 : Same H4 (upd H4 ud (.dK [])) := same_upd hud
        have hT5 := Same.sqT (s4.trans s5) hT
        have keepU : ∀ {H' : Hp}, Kp [ud] H4 H' → Same H4 H' := fun {H'} k b o e' => k b o (fun m => by rw [List.mem_singleton.mp m, hud] at e'; cases e') e'
        have k5 : Kp [ud] H4 (upd H4 ud (.dK [])) := fun b o nb eb => by rw [upd_ne (fun z => nb (by rw [z]; simp))]; exact eb
        have ltB : ∀ (B : List Nat), B.Sublist (behindOf C S F ways) → ∀ x ∈ B, x < C.n := fun B sb x hx => by
          obtain ⟨_, l, hl, hxl⟩ := behind_mem (sb.subset hx)
          obtain ⟨i, hi⟩ := List.getElem?_of_mem hl
          obtain ⟨_, _, _, wl⟩ := allW i l hi
          exact wayLB_lt ok wl x hxl
        refine at_name ?_
        dsimp only
        refine at_seq ?_
        refine ⟨_, rfl, t, rfl, ⟨_, hT5⟩, for_tup (K := K) (xs := xs) (fun i σ H' => ∃ v6 v7 v8 : Option V, σ = [some (.ref c), some (.ref lo), some (.ref fr), some (.ref t), some (.ref e), some (.ref ud), v6, v7, v8] ∧ Kp [ud] H4 H' ∧ H' ud = some (.dK (keysOf (behindOf C S F (ways.take i)))) ∧ (behindOf C S F (ways.take i)).Nodup)
          ⟨_, _, _, rfl, k5, by rw [upd_same]; rfl, List.nodup_nil⟩ (fun i σ H' _ ⟨_, _, _, _, k, _⟩ => Same.sqT (s4.trans (keepU k)) hT) ?_ ?_⟩
        · rintro i x σ H6 hx ⟨v6, v7, v8, rfl, k6, hU6, nd6⟩
          obtain ⟨l, hl⟩ : ∃ l, ways[i]? = some l := ⟨_, List.getElem?_eq_getElem (by rw [lw]; exact (List.getElem?_eq_some_iff.mp hx).1)⟩
          obtain ⟨a, hxa, ha, wl⟩ := allW i l hl
          have := Option.some.inj (hx.symm.trans hxa)
          subst this
          have ha6 := Same.sqT (s4.trans (keepU k6)) ha
          refine ⟨_, rfl, _, rfl, no_part (slA_of ha6 fun b H7 s7 hB => ?_)⟩
          rw [show (some (1 : Int)) = some ((1 : Nat) : Int) from rfl, cutG_drop, ← List.map_drop] at hB
          have k7 : Kp [ud] H4 H7 := k6.trans (Same.kp s7)
          have hU7 := s7 _ _ hU6
          have more := behind_more (C := C) (S := S) (F := F) hl
          have subW : ∀ j, (behindOf C S F (ways.take i) ++ ((l.drop 1).take j).filter (keptB C S F)).Sublist (behindOf C S F ways) := fun j => by
            refine List.Sublist.trans ?_ (behind_sub (i + 1))
            rw [more]
            exact List.Sublist.append (List.Sublist.refl _) ((List.take_sublist j _).filter _)
          refine ⟨b, rfl, ⟨_, hB⟩, for_tup (K := K) (xs := (l.drop 1).map vN) (fun j σ H' => ∃ v7 : Option V, σ = [some (.ref c), some (.ref lo), some (.ref fr), some (.ref t), some (.ref e), some (.ref ud), some (.ref a), v7, v8] ∧ Kp [ud] H7 H' ∧ H' ud = some (.dK (keysOf (behindOf C S F (ways.take i) ++ ((l.drop 1).take j).filter (keptB C S F)))) ∧ (behindOf C S F (ways.take i) ++ ((l.drop 1).take j).filter (keptB C S F)).Nodup)
            ⟨_, rfl, (fun _ _ _ h => h), by rw [List.take_zero, List.filter_nil, List.append_nil]; exact hU7, by rw [List.take_zero, List.filter_nil, List.append_nil]; exact nd6⟩ (fun j σ H' _ ⟨_, _, k, _⟩ => k.sqT (fun z hz => by rw [List.mem_singleton.mp hz]; exact ⟨_, hU7, (fun _ y => nomatch y), (fun _ _ y => nomatch y)⟩) hB) ?_ ?_⟩
          · rintro j y σ H8 hy ⟨v7', rfl, k8, hU8, nd8⟩
            obtain ⟨p, hp, rfl⟩ := get_map hy
            have k48 : Kp [ud] H4 H8 := k7.trans k8
            have pn : p < C.n := wayLB_lt ok wl p (List.mem_of_mem_drop (List.mem_of_getElem? hp))
            have stepJ : ((l.drop 1).take (j + 1)).filter (keptB C S F) = ((l.drop 1).take j).filter (keptB C S F) ++ (if keptB C S F p then [p] else []) := by
              rw [take_more hp, List.filter_append]
              congr 1
              rw [List.filter_cons, List.filter_nil]
            obtain ⟨B, eB⟩ : ∃ B, behindOf C S F (ways.take i) ++ ((l.drop 1).take j).filter (keptB C S F) = B := ⟨_, rfl⟩
            have subB : B.Sublist (behindOf C S F ways) := by rw [← eB]; exact subW j
            have eB1 : behindOf C S F (ways.take i) ++ ((l.drop 1).take (j + 1)).filter (keptB C S F) = B ++ (if keptB C S F p then [p] else []) := by rw [stepJ, ← List.append_assoc, eB]
            rw [eB] at hU8 nd8
            rw [eB1]
            refine ⟨_, rfl, _, rfl, ud, _, rfl, DGet.k (k := Sum.inl (p : Int)) hU8, _, rfl, ?_⟩
            rw [keysOf_val]
            by_cases hin : p ∈ B
            · rw [if_pos hin]
              refine iteT ?_
              have kp : keptB C S F p = true := (behind_mem (subB.subset hin)).1
              have no : ¬ (behindOf C S F ways).Nodup := fun nd => by
                have n2 := nodup_sub (subW (j + 1)) nd
                rw [eB1, if_pos kp, List.nodup_append] at n2
                exact n2.2.2 p hin p (by simp) rfl
              have z := q H8 (s4.trans (keepU k48))
              rw [decide_eq_false no] at z
              exact z
            · rw [if_neg hin]
              refine iteF ?_
              refine ⟨_, rfl, _, rfl, e, _, rfl, DGet.k (k := Sum.inl (p : Int)) (keepU k48 _ _ hE), _, rfl, ?_⟩
              rw [keysOf_val]
              cases hk : keptB C S F p with
              | false =>
                have e1 : (if p ∈ SH then some (V.bl true) else none) ≠ none := fun z => by
                  have := (inSH p pn).mp z
                  rw [hk] at this
                  cases this
                have hm : p ∈ SH := by
                  by_cases h : p ∈ SH
                  · exact h
                  · rw [if_neg h] at e1
                    exact absurd rfl e1
                rw [if_pos hm]
                refine iteF ⟨_, rfl, k8, ?_, ?_⟩
                · rw [if_neg (by simp), List.append_nil]
                  exact hU8
                · rw [if_neg (by simp), List.append_nil]
                  exact nd8
              | true =>
                have hm : p ∉ SH := fun h => by
                  have := (inSH p pn).mpr hk
                  rw [if_pos h] at this
                  cases this
                rw [if_neg hm]
                refine iteT ?_
                have nd9 : (B ++ [p]).Nodup := by
                  rw [List.nodup_append]
                  exact ⟨nd8, by simp, fun u hu v hv e => hin (by rw [← List.mem_singleton.mp hv, ← e]; exact hu)⟩
                have lB := nodup_lt nd8 (ltB B subB)
                refine ⟨_, rfl, _, rfl, ud, _, rfl, DPut.k (k := Sum.inl (p : Int)) hU8 (by rw [keysOf_len]; exact small1000 (by omega)), ?_⟩
                rw [keysOf_put B p hin]
                refine ⟨_, rfl, ?_, ?_, ?_⟩
                · intro x o n e1
                  rw [upd_ne (fun z => n (by rw [z]; simp))]
                  exact k8 x o n e1
                · rw [upd_same, if_pos rfl]
                · rw [if_pos rfl]
                  exact nd9
          · rintro σ H8 ⟨v7', rfl, k8, hU8, nd8⟩
            rw [List.length_map, List.take_length, ← more] at hU8 nd8
            exact ⟨_, _, _, rfl, k7.trans k8, hU8, nd8⟩
        · rintro σ H6 ⟨v6, v7, v8, rfl, k6, hU6, nd6⟩
          rw [← lw, List.take_length] at nd6
          have z := q H6 (s4.trans (keepU k6))
          rw [decide_eq_true nd6] at z
          exact z
end
end Ft
namespace Ft
open PySem PySem.Spec PyProof.Rows L2
section
variable {P : Program} {w : World} {K : PySem.W.Frag} {mg : Str → Option Value} {base : Heap} {ca : Str → Addr}
/-! ### ways_right -/
def sp_ways_right (K : PySem.W.Frag) : Sp := fun vs H Q _ => ∃ (vc vl vf vt : V) (dc dl df dt : PyData), vs = [vc, vl, vf, vt] ∧ Dp K H vc dc ∧ Dp K H vl dl ∧ Dp K H vf df ∧ Dp K H vt dt ∧ Fine dt ∧ ((mapErr dc).isSome = true → ∀ H', Same H H' → Q (.bl false) H') ∧
  ∀ C, dc = chartD C → C.Ok → C.roads.length < 64 ∧ (lotOk C.n dl = false → ∀ H', Same H H' → Q (.bl false) H') ∧ (freeD C df = false → ∀ H', Same H H' → Q (.bl false) H') ∧ ∀ S F, dl = lotD S → df = lotD F → lotOk C.n dl = true → freeD C df = true → ∀ H', Same H H' → Q (.bl (judgeB C S F dt)) H'
theorem freeD_is {C : Chart} {d : PyData} (h : freeD C d = true) : ∃ F, d = lotD F := by
  unfold freeD at h
  split at h
  · rename_i ds
    cases e : natsL ds with
    | none => rw [e] at h; cases h
    | some l => exact ⟨l, by rw [natsL_some e]; rfl⟩
  · cases h
theorem cal_ways_right (T : Txt mg) (D : Def K mg "ways_right" s_ways_right) (c_is_map : Cal P w K mg base 6 "is_map" (sp_is_map K)) (c_lot_fits : Cal P w K mg base 4 "lot_fits" (sp_lot_fits K)) (c_free_fits : Cal P w K mg base 5 "free_fits" (sp_free_fits K)) (c_ways_fit : Cal P w K mg base 5 "ways_fit" (sp_ways_fit K)) : Cal P w K mg base 7 "ways_right" (sp_ways_right K) := by
  refine cal_of D sc_ways_right (fun _ _ _ _ _ _ us hl => match us, hl with | [_, _, _, _], _ => rfl) (fun vs H Q E h => ?_) (fun f cdv A outer s H vs Q E hr h => ?_)
  · obtain ⟨vc, vl, vf, vt, dc, dl, df, dt, rfl, _⟩ := h
    rfl
  · obtain ⟨vc, vl, vf, vt, dc, dl, df, dt, rfl, hdc, hdl, hdf, hdt, fine, q1, q2⟩ := h
    refine ⟨_, (pss_cons (ps_if (PW.pt (pw_or (pt_not (pt_val (pe_c c_is_map hr (by decide) (by rfl) (pa_cons (pv 0) pa_nil)))) (pw_or (pt_not (pt_val (pe_c c_lot_fits hr (by decide) (by rfl) (pa_cons (pv 0) (pa_cons (pv 1) pa_nil))))) (pw_or1 (pt_not (pt_val (pe_c c_free_fits hr (by decide) (by rfl) (pa_cons (pv 0) (pa_cons (pv 2) pa_nil))))))))) (pss_one (ps_ret pe_bl)) pss_nil)
      (pss_one (ps_ret (pe_and (pe_callB (show CallR _ _ (rIsi K) from call_isi) (by rfl) T.isinstance (by decide +kernel) (pa_cons (pv 3) (pa_cons (pe_bltn (v := .ty "tuple") (u := .type "tuple") (by rfl) T.tuple (by decide +kernel) rfl) pa_nil))) (pe_one (pe_c c_ways_fit hr (by decide) (by rfl) (pa_cons (pv 0) (pa_cons (pv 1) (pa_cons (pv 2) (pa_cons (pv 3) pa_nil)))))))))), ?_⟩
    refine ⟨_, rfl, vc, dc, rfl, hdc, fun H1 s1 => ?_⟩
    cases em : mapErr dc with
    | some e => exact ⟨_, rfl, iteT (iteT (q1 (by rw [em]; rfl) H1 s1))⟩
    | none =>
      refine ⟨_, rfl, iteF ?_⟩
      obtain ⟨C, ok, rfl⟩ := mapErr_none em
      obtain ⟨few, qa, qb, qc⟩ := q2 C rfl ok
      obtain ⟨c, rfl, r, wd, ts, hC⟩ := chart_dp hdc
      refine ⟨_, rfl, _, rfl, c, r, wd, C.n, vl, dl, rfl, (hC.same s1).top, Dp.same s1 hdl, fun H2 s2 => ?_⟩
      have s02 := s1.trans s2
      cases el : lotOk C.n dl with
      | false => exact ⟨_, rfl, iteT (iteT (qa el H2 s02))⟩
      | true =>
        refine ⟨_, rfl, iteF ?_⟩
        refine ⟨_, rfl, _, rfl, c, C, vf, df, rfl, ⟨_, _, _, hC.same s02⟩, ok, Dp.same s02 hdf, fun H3 s3 => ?_⟩
        have s03 := s02.trans s3
        cases ef : freeD C df with
        | false => exact ⟨_, rfl, iteT (qb ef H3 s03)⟩
        | true =>
          refine ⟨_, rfl, iteF ?_⟩
          obtain ⟨S, rfl, _, _⟩ := lotOk_is el
          obtain ⟨F, rfl⟩ := freeD_is ef
          obtain ⟨lo, rfl, hS⟩ := lot_dp hdl
          obtain ⟨fr, rfl, hF⟩ := lot_dp hdf
          have q3 := qc S F rfl rfl el ef
          refine ⟨_, rfl, _, _, _, _, isTup dt, rfl, .ty "tuple", isi_dp (Dp.same s03 hdt), kit_tup dt, isTup dt, rfl, ?_⟩
          cases et : isTup dt with
          | false =>
            have no : judgeB C S F dt = false := by cases dt <;> first | rfl | cases et
            rw [no] at q3
            exact iteF (q3 H3 s03)
          | true =>
            obtain ⟨ds, rfl⟩ := isTup_is et
            obtain ⟨t, xs, rfl, hT, hD⟩ := dp_tup (Dp.same s03 hdt)
            exact iteT ⟨_, rfl, _, rfl, _, rfl, _, rfl, c, lo, fr, t, C, S, F, xs, ds, rfl, ⟨_, _, _, hC.same s03⟩, ok, few, Same.sqT s03 hS, Same.sqT s03 hF, hT, hD, fine, fun H4 s4 => q3 H4 (s03.trans s4)⟩
end
end Ft

set_option Elab.async false
set_option linter.all false
set_option maxRecDepth 100000
set_option maxHeartbeats 4000000
namespace Ft
open PySem PySem.Spec PyProof.Rows L2
/-! ### set(xs), xs many ints among few -/
theorem nodup_sub_len {α : Type} [DecidableEq α] : ∀ (l D : List α), l.Nodup → (∀ x ∈ l, x ∈ D) → l.length ≤ D.length
  | [], _, _, _ => Nat.zero_le _
  | x :: l, D, nd, h => by
    obtain ⟨n1, n2⟩ := List.nodup_cons.mp nd
    have hx := h x List.mem_cons_self
    have ih := nodup_sub_len l (D.erase x) n2 fun y hy => (List.mem_erase_of_ne (fun e : y = x => n1 (e ▸ hy))).mpr (h y (List.mem_cons_of_mem _ hy))
    rw [List.length_erase_of_mem hx] at ih
    have := List.length_pos_of_mem hx
    rw [List.length_cons]
    omega
theorem setR_count {w : World} {h : Heap} {a : Addr} {S : Int → Bool} {n : Nat} (R : SetR w h a S n) {D : List Int} (hD : ∀ k, S k = true → k ∈ D) : n ≤ D.length := by
  obtain ⟨o, es, ep, t, _, _, _, _, nd, mem, _, _, e, _⟩ := R
  have := nodup_sub_len _ D nd fun k hk => hD k ((mem k).mpr hk)
  rw [List.length_map, Array.length_toList] at this
  omega
def rSetN (K : PySem.W.Frag) (w : World) : List V → Hp → VK → Prop := fun xs H Q => ∃ (l : Addr) (ns : List Int), xs = [V.ref l] ∧ (SqL K H l (ns.map V.int) ∨ SqT K H l (ns.map V.int)) ∧ ns.length ≤ 1000 ∧
  ∀ (p : Addr) (n : Nat), H p = none → (∀ D : List Int, (∀ k ∈ ns, k ∈ D) → n ≤ D.length) → Q (.ref p) (upd H p (SetO w p (fun j => decide (j ∈ ns)) n))
theorem cr_setN {X : Cx} (hc : X.calm = true) : CallR X (.type "set") (rSetN X.K X.w) := by
  intro pins s σ H xs us Q I r h
  obtain ⟨l, ns, rfl, hl, few, q⟩ := h
  have few1 : ns.length + 1 < scanBound := Nat.lt_of_le_of_lt (Nat.succ_le_succ few) (by decide)
  have free : H s.heap.objs.size = none := I.hok.fresh (Nat.le_refl _)
  rw [Vals.ref1 r]
  rcases hl with hl | hl
  · obtain ⟨its, rv, pl, hz⟩ := I.list hl
    refine set_of_list ns (I.ok.hd hc) pl.isList (by simpa using rv.ints) few1 fun h' tk c hS hc2 hk => ?_
    exact ⟨.ref _, upd H s.heap.objs.size (SetO X.w s.heap.objs.size (fun j => decide (j ∈ ns)) c), I.laid (t' := tk) hk (Nat.le_refl _) (setO_new hS), rfl, q _ _ free fun D hD => setR_count hS fun k hk => hD k (of_decide_eq_true hk)⟩
  · obtain ⟨its, rv, pt, hz⟩ := I.tuple hl
    have pt2 : s.heap.IsTuple l its.toArray := pt
    refine call_set_tupI ns (I.ok.hd hc) pt2 (by simpa using ints_of_vals rv) few1 fun h' tk c hS hc2 hk => ?_
    exact ⟨.ref _, upd H s.heap.objs.size (SetO X.w s.heap.objs.size (fun j => decide (j ∈ ns)) c), I.laid (t' := tk) hk (Nat.le_refl _) (setO_new hS), rfl, q _ _ free fun D hD => setR_count hS fun k hk => hD k (of_decide_eq_true hk)⟩
end Ft

set_option Elab.async false
set_option linter.all false
set_option maxRecDepth 100000
set_option maxHeartbeats 4000000
/-! len(t), t a set of whole numbers, and set(xs) with how many it has -/
namespace Ft
open PySem PySem.Spec PyProof.Rows L2
def rLenSt (w : World) : List V → Hp → VK → Prop := fun xs H Q => ∃ (p : Addr) (S : Int → Bool) (n : Nat), xs = [.ref p] ∧ H p = some (SetO w p S n) ∧ Q (.int n) H
theorem call_lenSt {X : Cx} : CallR X (.builtin "len") (rLenSt X.w) := by
  intro pins s σ H xs us Q I r h
  obtain ⟨p, S, n, rfl, hp, q⟩ := h
  rw [Vals.ref1 r]
  obtain ⟨o, es, ep, t, ho, ex, d, _, _, _, few, fits, sz, _⟩ := setO_get I hp
  subst sz
  have big : (es.size : Int) < 2 ^ 63 := by
    have : scanBound ≤ 2 ^ 62 := by decide
    omega
  exact call_len_set ho ex d fits big ⟨.int (es.size : Nat), H, I.tok _, ⟨_, rfl⟩, q⟩
theorem setR_least {w : World} {h : Heap} {a : Addr} {S : Int → Bool} {n : Nat} (R : SetR w h a S n) {D : List Int} (nd : D.Nodup) (hD : ∀ k ∈ D, S k = true) : D.length ≤ n := by
  obtain ⟨o, es, ep, t, _, _, _, _, _, mem, _, _, e, _⟩ := R
  have le := nodup_sub_len D (es.toList.map keyOf) nd fun k hk => (mem k).mp (hD k hk)
  have e' : (es.toList.map keyOf).length = es.size := by rw [List.length_map, Array.length_toList]
  omega
/-- .. with the number of its members: as many as ns has, each once -/
def rSetM (K : PySem.W.Frag) (w : World) : List V → Hp → VK → Prop := fun xs H Q => ∃ (l : Addr) (ns : List Int), xs = [V.ref l] ∧ (SqL K H l (ns.map V.int) ∨ SqT K H l (ns.map V.int)) ∧ ns.length ≤ 1000 ∧
  ∀ (p : Addr) (n : Nat), H p = none → (∀ D : List Int, (∀ k ∈ ns, k ∈ D) → n ≤ D.length) → (∀ D : List Int, D.Nodup → (∀ k ∈ D, k ∈ ns) → D.length ≤ n) → Q (.ref p) (upd H p (SetO w p (fun j => decide (j ∈ ns)) n))
theorem cr_setM {X : Cx} (hc : X.calm = true) : CallR X (.type "set") (rSetM X.K X.w) := by
  intro pins s σ H xs us Q I r h
  obtain ⟨l, ns, rfl, hl, few, q⟩ := h
  have bd : ns.length + 1 < scanBound := Nat.lt_of_le_of_lt (Nat.succ_le_succ few) (by decide)
  have new : H s.heap.objs.size = none := I.hok.fresh (Nat.le_refl _)
  rw [Vals.ref1 r]
  rcases hl with hl | hl
  · obtain ⟨its, rv, pl, _⟩ := I.list hl
    exact set_of_list ns (I.ok.hd hc) pl.isList (by simpa using rv.ints) bd fun h' tk c hS _ hk => ⟨.ref _, upd H s.heap.objs.size (SetO X.w s.heap.objs.size (fun j => decide (j ∈ ns)) c), I.laid (t' := tk) hk (Nat.le_refl _) (setO_new hS), rfl, q _ _ new (fun D hD => setR_count hS fun k hk => hD k (of_decide_eq_true hk)) fun D nd hD => setR_least hS nd fun k hk => decide_eq_true (hD k hk)⟩
  · obtain ⟨its, rv, pt, _⟩ := I.tuple hl
    exact call_set_tupI ns (I.ok.hd hc) (show s.heap.IsTuple l its.toArray from pt) (by simpa using ints_of_vals rv) bd fun h' tk c hS _ hk => ⟨.ref _, upd H s.heap.objs.size (SetO X.w s.heap.objs.size (fun j => decide (j ∈ ns)) c), I.laid (t' := tk) hk (Nat.le_refl _) (setO_new hS), rfl, q _ _ new (fun D hD => setR_count hS fun k hk => hD k (of_decide_eq_true hk)) fun D nd hD => setR_least hS nd fun k hk => decide_eq_true (hD k hk)⟩
end Ft

set_option Elab.async false
set_option linter.all false
set_option maxRecDepth 100000
set_option maxHeartbeats 8000000
namespace Ft
open PySem PySem.Spec PyProof.Rows L2
theorem units_k {k : Nat} {A : Around} (r : Room k A) : A.units + 65 < cLine := by
  have := r.un
  omega
theorem in_zN {i : Int} {F : List Nat} : inV (.int i) (F.map vN) = decide (i ∈ iN F) := by
  rw [Bool.eq_iff_iff]
  unfold inV
  rw [List.any_map, List.any_eq_true, decide_eq_true_eq]
  unfold iN
  rw [List.mem_map]
  constructor
  · rintro ⟨y, hy, e⟩
    exact ⟨y, hy, by simpa [eqV, vN] using e⟩
  · rintro ⟨y, hy, e⟩
    exact ⟨y, hy, by simp [eqV, vN, e]⟩
theorem pairsZ_shaped (ps : List (Nat × Nat)) : SeqAt.shaped (.tuple (ps.map pairD)) = true := by
  have h := pairs_shaped ps
  unfold SeqAt.shaped at h ⊢
  have e : ps.map pairD = ps.map encP := rfl
  rw [e]
  simp only [PyData.canLay0, PyData.depth] at h ⊢
  exact h
theorem twoZ_shaped (a b : Int) : SeqAt.shaped (.tuple [.int a, .int b]) = true := by
  unfold SeqAt.shaped
  simp [PyData.canLay0, PyData.canLayAll0, PyData.depth, PyData.depthAll]
theorem eqv_twoZ {p : Nat × Nat} {a b : Int} : PyData.eqv (pairD p) (.tuple [.int a, .int b]) = (decide ((p.1 : Int) = a) && decide ((p.2 : Int) = b)) := by
  obtain ⟨x, y⟩ := p
  rw [Bool.eq_iff_iff]
  simp [pairD, nD, PyData.eqv, PyData.eqvAll]
def stepZ (rs : List (Nat × Nat)) (l : List Int) (i : Nat) : Bool := rs.any fun r => decide ((r.1 : Int) = l.getD i 0) && decide ((r.2 : Int) = l.getD (i + 1) 0)
theorem any_twoZ {rs : List (Nat × Nat)} {l : List Int} {i : Nat} : ((rs.map pairD).any fun z => PyData.eqv z (.tuple [.int (l.getD i 0), .int (l.getD (i + 1) 0)])) = stepZ rs l i := by
  rw [List.any_map]
  unfold stepZ
  congr 1
  funext r
  exact eqv_twoZ
def wayZ (C : Chart) (S : List Nat) (l : List Int) : Bool := decide (l.getD 0 0 ∈ iN S) && (!((l.drop 1).take (l.length - 2)).any (fun p => decide (p ∈ iN C.wished)) && (decide (l.getD (l.length - 1) 0 ∈ iN C.wished) && (List.range (l.length - 1)).all (stepZ C.roads l)))
theorem getD_iN (m : List Nat) (i : Nat) : (iN m).getD i 0 = ((m.getD i 0 : Nat) : Int) := by
  unfold iN
  rw [List.getD_eq_getElem?_getD, List.getD_eq_getElem?_getD, List.getElem?_map]
  cases m[i]? <;> rfl
theorem stepZ_is {rs : List (Nat × Nat)} {m : List Nat} {i : Nat} : stepZ rs (iN m) i = stepB rs m i := by
  unfold stepZ stepB
  rw [getD_iN, getD_iN, Bool.eq_iff_iff, List.any_eq_true, decide_eq_true_eq]
  constructor
  · rintro ⟨r, hr, e⟩
    rw [Bool.and_eq_true, decide_eq_true_eq, decide_eq_true_eq] at e
    have : r = (m.getD i 0, m.getD (i + 1) 0) := Prod.ext (by have := e.1; omega) (by have := e.2; omega)
    exact this ▸ hr
  · intro h
    exact ⟨_, h, by simp⟩
theorem wayZ_nats {C : Chart} {S m : List Nat} (h : 2 ≤ m.length) : wayZ C S (iN m) = wayLB C S m := by
  unfold wayZ wayLB
  have e1 : decide ((iN m).getD 0 0 ∈ iN S) = decide (m.getD 0 0 ∈ S) := by rw [getD_iN]; exact decide_eq_decide.mpr iN_mem
  have e2 : decide ((iN m).getD ((iN m).length - 1) 0 ∈ iN C.wished) = decide (m.getD (m.length - 1) 0 ∈ C.wished) := by rw [getD_iN, iN_length]; exact decide_eq_decide.mpr iN_mem
  have e3 : (((iN m).drop 1).take ((iN m).length - 2)).any (fun p => decide (p ∈ iN C.wished)) = ((m.drop 1).take (m.length - 2)).any (fun p => decide (p ∈ C.wished)) := by
    rw [iN_length]
    unfold iN
    rw [← List.map_drop, ← List.map_take, List.any_map]
    congr 1
    funext p
    exact decide_eq_decide.mpr iN_mem
  have e4 : (List.range ((iN m).length - 1)).all (stepZ C.roads (iN m)) = (List.range (m.length - 1)).all (stepB C.roads m) := by
    rw [iN_length]
    congr 1
    funext i
    exact stepZ_is
  rw [e1, e2, e3, e4, decide_eq_true h, Bool.true_and, Bool.and_left_comm (!_)]
theorem natZ {l : List Int} (h : ∀ x ∈ l, 0 ≤ x) : ∃ m, l = iN m := by
  refine ⟨l.map Int.toNat, ?_⟩
  unfold iN
  rw [List.map_map]
  conv => lhs; rw [← List.map_id l]
  exact List.map_congr_left fun x hx => (Int.toNat_of_nonneg (h x hx)).symm
theorem wayZ_pos {C : Chart} {S : List Nat} {l : List Int} (h2 : 2 ≤ l.length) (h : wayZ C S l = true) : ∀ x ∈ l, 0 ≤ x := by
  unfold wayZ at h
  simp only [Bool.and_eq_true, List.all_eq_true, List.mem_range] at h
  obtain ⟨_, _, _, hs⟩ := h
  intro x hx
  obtain ⟨i, hi⟩ := List.getElem?_of_mem hx
  have il := (List.getElem?_eq_some_iff.mp hi).1
  have ex : l.getD i 0 = x := by rw [List.getD_eq_getElem?_getD, hi]; rfl
  by_cases e : i + 1 < l.length
  · have h3 := hs i (by omega)
    unfold stepZ at h3
    obtain ⟨r, _, h4⟩ := List.any_eq_true.mp h3
    rw [Bool.and_eq_true, decide_eq_true_eq, decide_eq_true_eq] at h4
    have := h4.1
    omega
  · have h3 := hs (i - 1) (by omega)
    unfold stepZ at h3
    obtain ⟨r, _, h4⟩ := List.any_eq_true.mp h3
    rw [Bool.and_eq_true, decide_eq_true_eq, decide_eq_true_eq, show i - 1 + 1 = i by omega] at h4
    have := h4.2
    omega
theorem wayZ_is {C : Chart} {S : List Nat} {l : List Int} (h : 2 ≤ l.length) : wayD C S (.tuple (l.map .int)) = wayZ C S l := by
  have back : ∀ m, l = iN m → wayD C S (.tuple (l.map .int)) = wayZ C S l := by
    rintro m rfl
    have e : (iN m).map PyData.int = m.map nD := by unfold iN; rw [List.map_map]; rfl
    rw [e, way_nats, wayZ_nats (by rwa [iN_length] at h)]
  cases e1 : wayZ C S l with
  | true =>
    obtain ⟨m, em⟩ := natZ (wayZ_pos h e1)
    rw [back m em, e1]
  | false =>
    cases e2 : wayD C S (.tuple (l.map .int)) with
    | false => rfl
    | true =>
      obtain ⟨m, em, _, _⟩ := wayD_is e2
      have : l = iN m := by
        injection em with em
        have h1 : (l.map PyData.int).map numOf = (m.map nD).map numOf := by rw [em]
        rw [List.map_map, List.map_map] at h1
        have h3 : l.map (numOf ∘ PyData.int) = l := by
          conv => rhs; rw [← List.map_id l]
          rfl
        rw [h3] at h1
        exact h1
      rw [back m this, e1] at e2
      cases e2
/-- what a filter has kept so far -/
theorem filt_yes {K : PySem.W.Frag} {H : Hp} {f : PyData → Bool} {ds : List PyData} {j : Nat} {d : PyData} {ys : List V} {x : V} (hd : ds[j]? = some d) (hx : Dp K H x d) (h : DpAll K H ys ((ds.take j).filter f)) (e : f d = true) : DpAll K H (ys ++ [x]) ((ds.take (j + 1)).filter f) := by
  rw [take_more hd, List.filter_append, List.filter_cons, if_pos e]
  exact dpAll_app h (.cons hx .nil)
theorem filt_no {K : PySem.W.Frag} {H : Hp} {f : PyData → Bool} {ds : List PyData} {j : Nat} {d : PyData} {ys : List V} (hd : ds[j]? = some d) (h : DpAll K H ys ((ds.take j).filter f)) (e : f d = false) : DpAll K H ys ((ds.take (j + 1)).filter f) := by
  rw [take_more hd, List.filter_append, List.filter_cons, if_neg (by rw [e]; simp), List.filter_nil, List.append_nil]
  exact h
theorem filt_len {K : PySem.W.Frag} {H : Hp} {f : PyData → Bool} {ds : List PyData} {j : Nat} {ys : List V} (h : DpAll K H ys ((ds.take j).filter f)) : ys.length ≤ ds.length := by
  rw [dpAll_length h]
  exact Nat.le_trans (List.length_filter_le ..) (by rw [List.length_take]; omega)
theorem filt_none {f : PyData → Bool} : ∀ {ds : List PyData}, (ds.filter f).isEmpty = !ds.any f
  | [] => rfl
  | d :: ds => by
    rw [List.filter_cons, List.any_cons]
    cases e : f d with
    | true => rfl
    | false =>
      rw [if_neg (by simp)]
      exact filt_none
theorem ints_all : ∀ {ds : List PyData}, (ds.any fun d => !isIntB d || isBl d) = false → ∃ l : List Int, ds = l.map .int
  | [], _ => ⟨[], rfl⟩
  | d :: ds, h => by
    rw [List.any_cons, Bool.or_eq_false_iff] at h
    obtain ⟨l, rfl⟩ := ints_all h.2
    cases d with
    | int i => exact ⟨i :: l, rfl⟩
    | _ => exact absurd h.1 (by simp [isIntB, isBl])
theorem nats_few (d : PyData) : (natsOf d).length ≤ nodes d := by
  cases d with
  | tuple es =>
    show ((natsL es).getD []).length ≤ _
    cases e : natsL es with
    | none => exact Nat.zero_le _
    | some l =>
      have := natsL_some e
      have h2 := nodes_len es
      have h3 : es.length = l.length := by rw [this, List.length_map]
      simp only [nodes]
      show l.length ≤ _
      omega
  | _ => exact Nat.zero_le _
theorem behind_few' {C : Chart} {S F : List Nat} : ∀ ds : List PyData, (behindOf C S F (ds.map natsOf)).length ≤ nodess ds
  | [] => Nat.zero_le _
  | d :: ds => by
    have h1 := behind_few' (C := C) (S := S) (F := F) ds
    have h2 := nats_few d
    have e : behindOf C S F ((d :: ds).map natsOf) = ((natsOf d).drop 1).filter (keptB C S F) ++ behindOf C S F (ds.map natsOf) := rfl
    have h3 := List.length_filter_le (keptB C S F) ((natsOf d).drop 1)
    rw [List.length_drop] at h3
    rw [e, List.length_append]
    simp only [nodess]
    omega
theorem behind_few {C : Chart} {S F : List Nat} {ds : List PyData} (h : Fine (.tuple ds)) : (behindOf C S F (ds.map natsOf)).length ≤ 900 := by
  have h1 := behind_few' (C := C) (S := S) (F := F) ds
  have h2 := h.nd
  simp only [nodes] at h2
  omega
theorem twice_less : ∀ {l : List Nat}, ¬ l.Nodup → ∃ D : List Nat, D.length < l.length ∧ ∀ k ∈ l, k ∈ D
  | [], h => absurd List.nodup_nil h
  | a :: l, h => by
    by_cases ha : a ∈ l
    · refine ⟨l, by rw [List.length_cons]; omega, fun k hk => ?_⟩
      rcases List.mem_cons.mp hk with rfl | hk
      · exact ha
      · exact hk
    · have h2 : ¬ l.Nodup := fun nd => h (List.nodup_cons.mpr ⟨ha, nd⟩)
      obtain ⟨D, h3, h4⟩ := twice_less h2
      refine ⟨a :: D, by rw [List.length_cons, List.length_cons]; omega, fun k hk => ?_⟩
      rcases List.mem_cons.mp hk with rfl | hk
      · exact List.mem_cons_self
      · exact List.mem_cons_of_mem _ (h4 k hk)
theorem iN_nodup {l : List Nat} (h : l.Nodup) : (iN l).Nodup := by
  unfold iN
  exact List.Pairwise.map _ (fun a b (n : a ≠ b) e => n (by omega)) h
theorem dp_ints {K : PySem.W.Frag} {H : Hp} : ∀ (l : List Int), DpAll K H (l.map V.int) (l.map .int)
  | [] => .nil
  | i :: l => .cons (.int i) (dp_ints l)
theorem filt_z {α : Type} {f : α → Bool} : ∀ {ds : List α}, (ds.filter f).isEmpty = !ds.any f
  | [] => rfl
  | d :: ds => by
    rw [List.filter_cons, List.any_cons]
    cases e : f d with
    | true => rfl
    | false =>
      rw [if_neg (by simp)]
      exact filt_z
theorem ints_dp {K : PySem.W.Frag} {H : Hp} : ∀ {l : List Int} {xs : List V}, DpAll K H xs (l.map .int) → xs = l.map V.int
  | [], _, h => by cases h; rfl
  | i :: l, _, h => by
    cases h with
    | cons h1 h2 =>
      cases h1
      rw [ints_dp h2]
      rfl
section
variable {P : Program} {w : World} {K : PySem.W.Frag} {mg : Str → Option Value} {base : Heap} {ca : Str → Addr}
/-! ### _law_way_is_way -/
def sp_law_way_is_way (K : PySem.W.Frag) : Sp := fun vs H Q _ => ∃ (c lo : Addr) (C : Chart) (S : List Nat) (v : V) (d : PyData), vs = [.ref c, .ref lo, v] ∧ IsChart K H c C ∧ C.Ok ∧ SqT K H lo (S.map vN) ∧ Dp K H v d ∧ Fine d ∧ ∀ H', Same H H' → Q (.bl (wayD C S d)) H'
theorem cal_law_way_is_way (T : Txt mg) (D : Def K mg "_law_way_is_way" s_law_way_is_way) : Cal P w K mg base 1 "_law_way_is_way" (sp_law_way_is_way K) := by
  refine cal_of D sc_law_way_is_way (fun _ _ _ _ _ _ us hl => match us, hl with | [_, _, _], _ => rfl) (fun vs H Q E h => ?_) (fun f cdv A outer s H vs Q E hr h => ?_)
  · obtain ⟨c, lo, C, S, v, d, rfl, _⟩ := h
    rfl
  · obtain ⟨c, lo, C, S, v, d, rfl, ⟨r, wd, ts, hC⟩, ok, hS, hd, fine, q⟩ := h
    have n60 := ok.n60
    have hU := hr.units
    have hU1 := units_k hr
    refine ⟨_, (pss_cons (ps_if (PW.pt (pw_or (pt_not (pt_val (pe_callB (show CallR _ _ (rIsi K) from call_isi) (by rfl) T.isinstance (by decide +kernel) (pa_cons (pv 2) (pa_cons (pe_bltn (v := .ty "tuple") (u := .type "tuple") (by rfl) T.tuple (by decide +kernel) rfl) pa_nil))))) (pw_or1 (pt_cmpR op_lt (pe_callB (show CallR _ _ (rLenS K) from call_lenS) (by rfl) T.len (by decide +kernel) (pa_cons (pv 2) pa_nil)) pe_int (nomark _))))) (pss_one (ps_ret pe_bl)) pss_nil)
      (pss_cons (ps_if (pt_cmpR (show OpR _ _ (rNeD K) from op_neD hU) (pe_lc (own := [("p", 3)]) rfl sc_law_way_is_way.nd (show PI _ _ _ (iTup K _) from pi_tup (pv 2)) (blkOk_by (N := ["chart", "lot", "thing", "p", "at"]) (sc := L2.defScope s_law_way_is_way) (by decide +kernel)) (fun _ _ _ _ _ => (pg_name (i := 3) sc_law_way_is_way.nd rfl (Or.inl rfl))) (fun _ _ _ _ _ => pts_one (PW.pt (pw_or (pt_not (pt_val (pe_callB (show CallR _ _ (rIsi K) from call_isi) (by rfl) T.isinstance (by decide +kernel) (pa_cons (pv 3) (pa_cons (pe_bltn (v := .ty "int") (u := .type "int") (by rfl) T.int (by decide +kernel) rfl) pa_nil))))) (pw_or1 (pt_val (pe_callB (show CallR _ _ (rIsi K) from call_isi) (by rfl) T.isinstance (by decide +kernel) (pa_cons (pv 3) (pa_cons (pe_bltn (v := .ty "bool") (u := .type "bool") (by rfl) T.bool (by decide +kernel) rfl) pa_nil)))))))) (fun _ _ _ _ _ => (pv 3))) (pe_lst pa_nil) (nomark _)) (pss_one (ps_ret pe_bl)) pss_nil)
      (pss_cons (ps_if (PW.pt (pw_or (pt_cmpR (show OpR _ _ (rIn K true) from op_notIn_seq) (pe_ix (show IxR _ (rIxT K) from ix_tup) (pv 2) pe_int (fun _ _ => rfl)) (pv 1) (by rfl)) (pw_or (pt_cmpR (show OpR _ _ (rNeD K) from op_neD hU) (pe_lc (own := [("p", 3)]) rfl sc_law_way_is_way.nd (show PI _ _ _ (iTup K _) from pi_tup (pe_slice (show SlR _ (rSlA K) from sl_tupA) (pv 2) (po_some pe_int) (po_some (pe_un un_neg pe_int)))) (blkOk_by (N := ["chart", "lot", "thing", "p", "at"]) (sc := L2.defScope s_law_way_is_way) (by decide +kernel)) (fun _ _ _ _ _ => (pg_name (i := 3) sc_law_way_is_way.nd rfl (Or.inl rfl))) (fun _ _ _ _ _ => pts_one (pt_cmpR (show OpR _ _ (rIn K false) from op_in_seq) (pv 3) (pe_ix (show IxR _ (rIxT K) from ix_tup) (pv 0) pe_int (fun _ _ => rfl)) (by rfl))) (fun _ _ _ _ _ => (pv 3))) (pe_lst pa_nil) (nomark _)) (pw_or1 (pt_cmpR (show OpR _ _ (rIn K true) from op_notIn_seq) (pe_ix (show IxR _ (rIxT K) from ix_tup) (pv 2) (pe_un un_neg pe_int) (fun _ _ => rfl)) (pe_ix (show IxR _ (rIxT K) from ix_tup) (pv 0) pe_int (fun _ _ => rfl)) (by rfl)))))) (pss_one (ps_ret pe_bl)) pss_nil)
      (pss_one (ps_ret (pe_cmpR (show OpR _ _ (rEqD K) from op_eqD hU) (pe_lc (own := [("at", 4)]) rfl sc_law_way_is_way.nd (pi_range1 (by rfl) T.range (pa_cons (pe_op op_sub (pe_callB (show CallR _ _ (rLenS K) from call_lenS) (by rfl) T.len (by decide +kernel) (pa_cons (pv 2) pa_nil)) pe_int) pa_nil)) (blkOk_by (N := ["chart", "lot", "thing", "p", "at"]) (sc := L2.defScope s_law_way_is_way) (by decide +kernel)) (fun _ _ _ _ _ => (pg_name (i := 4) sc_law_way_is_way.nd rfl (Or.inl rfl))) (fun _ _ _ _ _ => pts_one (pt_cmpR (show OpR _ _ (rNotInTD K) from op_notInTD hU1) (pe_tup (pa_cons (pe_ix (show IxR _ (rIxT K) from ix_tup) (pv 2) (pv 4) (fun _ _ => rfl)) (pa_cons (pe_ix (show IxR _ (rIxT K) from ix_tup) (pv 2) (pe_op op_add (pv 4) pe_int) (fun _ _ => rfl)) pa_nil))) (pe_ix (show IxR _ (rIxT K) from ix_tup) (pv 0) pe_int (fun _ _ => rfl)) (by rfl))) (fun _ _ _ _ _ => (pv 4))) (pe_lst pa_nil) (nomark _))))))), ?_⟩
    refine ⟨_, rfl, _, _, _, _, isTup d, rfl, .ty "tuple", isi_dp hd, kit_tup d, isTup d, rfl, ?_⟩
    cases e : isTup d with
    | false =>
      rw [ways_no e] at q
      exact iteT (iteT (q H fun _ _ h => h))
    | true =>
      obtain ⟨ds, rfl⟩ := isTup_is e
      obtain ⟨t, xs, rfl, hT, hD⟩ := dp_tup hd
      have lx : xs.length = ds.length := dpAll_length hD
      have l2000 := fine.len
      refine iteF ?_
      refine ⟨_, rfl, _, _, rfl, .inr hT, _, _, rfl, rfl, _, rfl, ite_any (fun h2 => ?_) (fun h2 => ?_)⟩
      · have : ds.length < 2 := by
          have := of_decide_eq_true h2
          omega
        rw [way_short this] at q
        exact q H fun _ _ h => h
      have tw : 2 ≤ ds.length := by
        have := of_decide_eq_false h2
        omega
      refine ⟨_, rfl, t, rfl, ⟨_, hT⟩, fun g hg => ?_⟩
      have keep : ∀ {H' : Hp}, Kp [g] H H' → Same H H' := fun {H'} k b o e' => k b o (fun m => by rw [List.mem_singleton.mp m, hg] at e'; cases e') e'
      refine lc_tup (K := K) (a := t) (xs := xs) (fun j H' => ∃ ys, Kp [g] H H' ∧ H' g = some (.lst ys) ∧ DpAll K H ys ((ds.take j).filter fun d => !isIntB d || isBl d))
        ⟨[], (fun b o x e' => by rw [upd_ne (ne_of_none e' hg)]; exact e'), upd_same, .nil⟩ (fun j H' _ ⟨_, k, _⟩ => Same.sqT (keep k) hT) ?_ ?_
      · rintro j x H2 hx ⟨ys, k2, hG, hY⟩
        obtain ⟨dx, hdx, px⟩ := dpAll_get hD hx
        have px2 := Dp.same (keep k2) px
        refine ⟨rfl, ?_⟩
        have jl := (List.getElem?_eq_some_iff.mp hdx).1
        have ly := filt_len hY
        have put : (!isIntB dx || isBl dx) = true → ∃ acc, H2 g = some (.lst acc) ∧ acc.length < sizeLine ∧ ∃ ys, Kp [g] H (upd H2 g (.lst (acc ++ [x]))) ∧ (upd H2 g (.lst (acc ++ [x]))) g = some (.lst ys) ∧ DpAll K H ys ((ds.take (j + 1)).filter fun d => !isIntB d || isBl d) := fun hf => by
          refine ⟨ys, hG, by rw [sizeLine_eq]; omega, ys ++ [x], ?_, upd_same, filt_yes hdx px hY hf⟩
          intro b o nb eb
          rw [upd_ne (fun z => nb (by rw [z]; simp))]
          exact k2 b o nb eb
        refine ⟨_, rfl, _, _, _, _, isIntB dx, rfl, .ty "int", isi_dp px2, kit_int dx, isIntB dx, rfl, ?_⟩
        cases e1 : isIntB dx with
        | false => exact iteT (iteT ⟨_, rfl, put (by rw [e1]; rfl)⟩)
        | true =>
          refine iteF ⟨_, rfl, _, _, _, _, isBl dx, rfl, .ty "bool", isi_dp px2, kit_bool dx, isBl dx, rfl, ?_⟩
          cases e2 : isBl dx with
          | true => exact iteT ⟨_, rfl, put (by rw [e1, e2]; rfl)⟩
          | false => exact iteF ⟨ys, k2, hG, filt_no hdx hY (by rw [e1, e2]; rfl)⟩
      rintro H2 ⟨ys, k2, hG, hY⟩
      rw [lx, List.take_length] at hY
      have s2 := keep k2
      refine ⟨Nat.zero_le _, fun g2 hg2 => ?_⟩
      have s3 := s2.trans (same_upd (o := .lst []) hg2)
      have hG3 := (same_upd (o := .lst []) hg2) _ _ hG
      have hG4 : (upd H2 g2 (.lst [])) g2 = some (.lst []) := upd_same
      generalize upd H2 g2 (.lst []) = H3 at s3 hG3 hG4
      refine ⟨.list (ds.filter fun d => !isIntB d || isBl d), .list [], .lst (.inl (.inl hG3)) (DpAll.same s3 hY), .lst (.inl (.inl hG4)) .nil, fine.sub (fun e he => (List.mem_filter.mp he).1), rfl, _, rfl, ?_⟩
      rw [eqv_nil, filt_none, Bool.not_not]
      cases e1 : ds.any fun d => !isIntB d || isBl d with
      | true =>
        have no : wayD C S (.tuple ds) = false := by
          cases e2 : wayD C S (.tuple ds) with
          | false => rfl
          | true =>
            obtain ⟨l, el, _, _⟩ := wayD_is e2
            injection el with el
            obtain ⟨z, hz, hz2⟩ := List.any_eq_true.mp e1
            rw [el] at hz
            obtain ⟨n, _, rfl⟩ := List.mem_map.mp hz
            cases hz2
        rw [no] at q
        exact iteT (q H3 s3)
      | false =>
        refine iteF ?_
        obtain ⟨l, rfl⟩ := ints_all e1
        rw [List.length_map] at tw l2000
        rw [wayZ_is tw] at q
        have ex : xs = l.map V.int := ints_dp hD
        subst ex
        have hC3 := hC.same s3
        have hT3 := Same.sqT s3 hT
        have hS3 := Same.sqT s3 hS
        have getI : ∀ i, i < l.length → (l.map V.int)[i]? = some (V.int (l.getD i 0)) := fun i hi => by
          rw [List.getElem?_map, List.getD_eq_getElem?_getD, List.getElem?_eq_getElem hi]
          rfl
        refine ⟨_, rfl, _, _, _, _, rfl, rfl, hT3, atI_nat (j := 0) (getI 0 (by omega)), _, rfl, lo, _, rfl, .inr hS3, rfl, all_vN S, _, rfl, ?_⟩
        show if (!inV (.int (l.getD 0 0)) (S.map vN)) = true then _ else _
        rw [in_zN]
        by_cases h0 : l.getD 0 0 ∈ iN S
        · rw [decide_eq_true h0]
          refine iteF ?_
          obtain ⟨I, eI⟩ : ∃ I, (l.drop 1).take (l.length - 2) = I := ⟨_, rfl⟩
          refine ⟨_, rfl, _, rfl, _, rfl, _, rfl, slA_of hT3 fun b H4 s4 hB => ?_⟩
          rw [cutG_inner, List.length_map, ← List.map_drop, ← List.map_take, eI] at hB
          have lI : I.length ≤ 2000 := by rw [← eI, List.length_take, List.length_drop]; omega
          have hC4 := hC3.same s4
          have hT4 := Same.sqT s4 hT3
          refine ⟨b, rfl, ⟨_, hB⟩, fun g3 hg3 => ?_⟩
          have keep3 : ∀ {H' : Hp}, Kp [g3] H4 H' → Same H4 H' := fun {H'} k b o e' => k b o (fun m => by rw [List.mem_singleton.mp m, hg3] at e'; cases e') e'
          refine lc_tup (K := K) (a := b) (xs := I.map V.int) (fun j H' => Kp [g3] H4 H' ∧ H' g3 = some (.lst (((I.take j).filter fun p => decide (p ∈ iN C.wished)).map V.int)))
            ⟨(fun b o x e' => by rw [upd_ne (ne_of_none e' hg3)]; exact e'), upd_same⟩ (fun j H' _ ⟨k, _⟩ => Same.sqT (keep3 k) hB) ?_ ?_
          · rintro j x H5 hx ⟨k5, hG5⟩
            obtain ⟨p, hp, rfl⟩ := get_map hx
            have jl := (List.getElem?_eq_some_iff.mp hp).1
            have hC5 := hC4.same (keep3 k5)
            refine ⟨rfl, ?_⟩
            refine ⟨_, rfl, _, rfl, _, _, _, _, rfl, rfl, hC5.top, rfl, wd, _, rfl, .inr hC5.wis, rfl, all_vN C.wished, _, rfl, ?_⟩
            show if inV (.int p) (C.wished.map vN) = true then _ else _
            rw [in_zN]
            have hf : (I.take (j + 1)).filter (fun p => decide (p ∈ iN C.wished)) = (I.take j).filter (fun p => decide (p ∈ iN C.wished)) ++ (if decide (p ∈ iN C.wished) = true then [p] else []) := by
              rw [take_more hp, List.filter_append, List.filter_cons, List.filter_nil]
            cases e2 : decide (p ∈ iN C.wished) with
            | true =>
              rw [e2, if_pos rfl] at hf
              refine iteT ⟨_, rfl, _, hG5, ?_, ?_, ?_⟩
              · rw [List.length_map, sizeLine_eq]
                have := List.length_filter_le (fun p => decide (p ∈ iN C.wished)) (I.take j)
                rw [List.length_take] at this
                omega
              · intro b' o nb eb
                rw [upd_ne (fun z => nb (by rw [z]; simp))]
                exact k5 b' o nb eb
              · rw [upd_same, hf, List.map_append]
                rfl
            | false =>
              rw [e2, if_neg (by simp), List.append_nil] at hf
              exact iteF ⟨k5, by rw [hf]; exact hG5⟩
          rintro H5 ⟨k5, hG5⟩
          rw [List.length_map, List.take_length] at hG5
          refine ⟨Nat.zero_le _, fun g4 hg4 => ?_⟩
          have s5 := keep3 k5
          have s6 := (s3.trans (s4.trans s5)).trans (same_upd (o := .lst []) hg4)
          have hG6 := (same_upd (o := .lst []) hg4) _ _ hG5
          have hG7 : (upd H5 g4 (.lst [])) g4 = some (.lst []) := upd_same
          generalize upd H5 g4 (.lst []) = H6 at s6 hG6 hG7
          refine ⟨.list ((I.filter fun p => decide (p ∈ iN C.wished)).map .int), .list [], .lst (.inl (.inl hG6)) (dp_ints _), .lst (.inl (.inl hG7)) .nil, ints_shaped _, rfl, _, rfl, ?_⟩
          rw [eqv_nil]
          have e3 : (((I.filter fun p => decide (p ∈ iN C.wished)).map PyData.int).isEmpty) = !I.any fun p => decide (p ∈ iN C.wished) := by
            rw [List.isEmpty_map]
            exact filt_z
          rw [e3, Bool.not_not]
          cases e4 : I.any fun p => decide (p ∈ iN C.wished) with
          | true =>
            have no : wayZ C S l = false := by
              unfold wayZ
              rw [eI, e4]
              simp
            rw [no] at q
            exact iteT (iteT (q H6 s6))
          | false =>
            refine iteF ?_
            have hC6 := hC.same s6
            have hT6 := Same.sqT s6 hT
            refine ⟨_, rfl, _, rfl, _, _, _, _, rfl, rfl, hT6, atI_end (by rw [List.length_map]; exact getI (l.length - 1) (by omega)), _, rfl, _, _, _, _, rfl, rfl, hC6.top, rfl, wd, _, rfl, .inr hC6.wis, rfl, all_vN C.wished, _, rfl, ?_⟩
            show if (!inV (.int (l.getD (l.length - 1) 0)) (C.wished.map vN)) = true then _ else _
            rw [in_zN]
            by_cases h1 : l.getD (l.length - 1) 0 ∈ iN C.wished
            · rw [decide_eq_true h1]
              refine iteF ?_
              have yes : wayZ C S l = (List.range (l.length - 1)).all (stepZ C.roads l) := by
                unfold wayZ
                rw [decide_eq_true h0, decide_eq_true h1, eI, e4]
                rfl
              rw [yes] at q
              have eN : (((l.map V.int).length : Int) - 1).toNat = l.length - 1 := by rw [List.length_map]; omega
              refine ⟨_, rfl, _, _, rfl, .inr hT6, _, _, rfl, rfl, _, rfl, by rw [List.length_map]; omega, by rw [List.length_map]; omega, fun g5 hg5 => ?_⟩
              have keep5 : ∀ {H' : Hp}, Kp [g5] H6 H' → Same H6 H' := fun {H'} k b o e' => k b o (fun m => by rw [List.mem_singleton.mp m, hg5] at e'; cases e') e'
              rw [eN]
              refine lc_range (lo := 0) (n := l.length - 1) (fun j H' => Kp [g5] H6 H' ∧ H' g5 = some (.lst (((List.range j).filter fun i => !stepZ C.roads l i).map vN)))
                ⟨(fun b o x e' => by rw [upd_ne (ne_of_none e' hg5)]; exact e'), upd_same⟩ ?_ ?_
              · rintro i H7 hi ⟨k7, hG8⟩
                have e0 : (0 : Int) + (i : Nat) = (i : Nat) := by omega
                have hC7 := hC6.same (keep5 k7)
                have hT7 := Same.sqT (keep5 k7) hT6
                refine ⟨rfl, ?_⟩
                rw [e0]
                refine ⟨_, rfl, _, rfl, _, _, _, _, rfl, rfl, hT7, atI_nat (j := i) (getI i (by omega)), ?_⟩
                refine ⟨_, rfl, _, rfl, _, _, rfl, rfl, _, _, _, _, rfl, rfl, hT7, atI_nat (j := i + 1) (getI (i + 1) (by omega)), ?_⟩
                refine ⟨by show 2 ≤ sizeLine; decide, fun tp htp => ?_⟩
                have s8 : Same H7 (upd H7 tp (.tup [V.int (l.getD i 0), V.int (l.getD (i + 1) 0)])) := same_upd htp
                have hTp : SqT K (upd H7 tp (.tup [V.int (l.getD i 0), V.int (l.getD (i + 1) 0)])) tp [V.int (l.getD i 0), V.int (l.getD (i + 1) 0)] := .inl (.inl upd_same)
                have hg5t : g5 ≠ tp := ne_of_none hG8 htp
                have hG9 := s8 _ _ hG8
                have k8 : Kp [g5] H6 (upd H7 tp (.tup [V.int (l.getD i 0), V.int (l.getD (i + 1) 0)])) := fun b o nb eb => s8 _ _ (k7 b o nb eb)
                have hC8 := hC7.same s8
                generalize upd H7 tp (.tup [V.int (l.getD i 0), V.int (l.getD (i + 1) 0)]) = H8 at s8 hTp hG9 k8 hC8
                refine ⟨_, rfl, _, _, _, _, rfl, rfl, hC8.top, rfl, .tuple [.int (l.getD i 0), .int (l.getD (i + 1) 0)], C.roads.map pairD, .tup hTp (.cons (.int _) (.cons (.int _) .nil)), .tup hC8.row (dp_pairs hC8.prs), twoZ_shaped _ _, pairsZ_shaped _, _, rfl, ?_⟩
                rw [any_twoZ]
                have hf : (List.range (i + 1)).filter (fun i => !stepZ C.roads l i) = (List.range i).filter (fun i => !stepZ C.roads l i) ++ (if (!stepZ C.roads l i) = true then [i] else []) := by
                  rw [List.range_succ, List.filter_append, List.filter_cons, List.filter_nil]
                cases e2 : stepZ C.roads l i with
                | false =>
                  rw [e2, if_pos (by rfl)] at hf
                  refine iteT ⟨_, rfl, _, hG9, ?_, ?_, ?_⟩
                  · rw [List.length_map, sizeLine_eq]
                    have := List.length_filter_le (fun i => !stepZ C.roads l i) (List.range i)
                    rw [List.length_range] at this
                    omega
                  · intro b' o nb eb
                    rw [upd_ne (fun z => nb (by rw [z]; simp))]
                    exact k8 b' o nb eb
                  · rw [upd_same, hf, List.map_append]
                    rfl
                | true =>
                  rw [e2, if_neg (by simp), List.append_nil] at hf
                  exact iteF ⟨k8, by rw [hf]; exact hG9⟩
              · rintro H7 ⟨k7, hG8⟩
                refine ⟨Nat.zero_le _, fun g6 hg6 => ?_⟩
                have s7 := s6.trans ((keep5 k7).trans (same_upd (o := .lst []) hg6))
                have hG9 := (same_upd (o := .lst []) hg6) _ _ hG8
                have hG10 : (upd H7 g6 (.lst [])) g6 = some (.lst []) := upd_same
                generalize upd H7 g6 (.lst []) = H8 at s7 hG9 hG10
                have eM : ((List.range (l.length - 1)).filter fun i => !stepZ C.roads l i).map vN = (iN ((List.range (l.length - 1)).filter fun i => !stepZ C.roads l i)).map V.int := vN_map _
                rw [eM] at hG9
                refine ⟨.list ((iN ((List.range (l.length - 1)).filter fun i => !stepZ C.roads l i)).map .int), .list [], .lst (.inl (.inl hG9)) (dp_ints _), .lst (.inl (.inl hG10)) .nil, ints_shaped _, rfl, ?_⟩
                rw [eqv_nil]
                have e5 : ((iN ((List.range (l.length - 1)).filter fun i => !stepZ C.roads l i)).map PyData.int).isEmpty = (List.range (l.length - 1)).all (stepZ C.roads l) := by
                  unfold iN
                  rw [List.isEmpty_map, List.isEmpty_map, filt_z, List.not_any_eq_all_not]
                  simp
                rw [e5]
                exact q H8 s7
            · rw [decide_eq_false h1]
              have no : wayZ C S l = false := by
                unfold wayZ
                rw [decide_eq_false h1]
                simp
              rw [no] at q
              exact iteT (q H6 s6)
        · rw [decide_eq_false h0]
          have no : wayZ C S l = false := by
            unfold wayZ
            rw [decide_eq_false h0]
            rfl
          rw [no] at q
          exact iteT (iteT (q H3 s3))
/-! ### _law_way_apart -/
def sp_law_way_apart (K : PySem.W.Frag) : Sp := fun vs H Q _ => ∃ (c lo fr t : Addr) (C : Chart) (S F : List Nat) (xs : List V) (ds : List PyData), vs = [.ref c, .ref lo, .ref fr, .ref t] ∧ IsChart K H c C ∧ C.Ok ∧ SqT K H lo (S.map vN) ∧ SqT K H fr (F.map vN) ∧ (∀ p ∈ F, p ∉ C.wished) ∧ SqT K H t xs ∧ DpAll K H xs ds ∧ Fine (.tuple ds) ∧ ds.all (wayD C S) = true ∧ ∀ H', Same H H' → Q (.bl (decide (behindOf C S F (ds.map natsOf)).Nodup)) H'
theorem cal_law_way_apart (T : Txt mg) (D : Def K mg "_law_way_apart" s_law_way_apart) : Cal P w K mg base 1 "_law_way_apart" (sp_law_way_apart K) := by
  refine cal_of D sc_law_way_apart (fun _ _ _ _ _ _ us hl => match us, hl with | [_, _, _, _], _ => rfl) (fun vs H Q E h => ?_) (fun f cdv A outer s H vs Q E hr h => ?_)
  · obtain ⟨c, lo, fr, t, C, S, F, xs, ds, rfl, _⟩ := h
    rfl
  · obtain ⟨c, lo, fr, t, C, S, F, xs, ds, rfl, hCC, ok, hS, hF, offF, hT, hD, fine, e3, q⟩ := h
    have n60 := ok.n60
    have lx : xs.length = ds.length := dpAll_length hD
    refine ⟨_, (pss_cons (ps_set (i := 4) sc_law_way_apart.nd rfl (Or.inl rfl) (pe_lst pa_nil))
      (pss_cons (ps_for PassesOwn.never rfl (show PI _ _ _ (iTup K _) from pi_tup (pv 3)) (pg_name (i := 5) sc_law_way_apart.nd rfl (Or.inl rfl)) (pss_one (ps_set (i := 4) sc_law_way_apart.nd rfl (Or.inl rfl) (pe_op op_cat (pv 4) (pe_lc (own := [("p", 6)]) rfl sc_law_way_apart.nd (show PI _ _ _ (iTup K _) from pi_tup (pe_slice (show SlR _ (rSlA K) from sl_tupA) (pv 5) (po_some pe_int) po_none)) (blkOk_by (N := ["chart", "lot", "free", "ways", "behind", "way", "p"]) (sc := L2.defScope s_law_way_apart) (by decide +kernel)) (fun _ _ _ _ _ => (pg_name (i := 6) sc_law_way_apart.nd rfl (Or.inl rfl))) (fun _ _ _ _ _ => pts_one (PW.pt (pw_and (pt_cmpR (show OpR _ _ (rIn K true) from op_notIn_seq) (pv 6) (pv 2) (by rfl)) (pw_and1 (PW.pt (pw_or (pt_cmpR (show OpR _ _ (rIn K false) from op_in_seq) (pv 6) (pe_ix (show IxR _ (rIxT K) from ix_tup) (pv 0) pe_int (fun _ _ => rfl)) (by rfl)) (pw_or1 (pt_cmpR (show OpR _ _ (rIn K true) from op_notIn_seq) (pv 6) (pv 1) (by rfl))))))))) (fun _ _ _ _ _ => (pv 6)))))))
      (pss_one (ps_ret (pe_cmpR op_eq (pe_callB (show CallR _ _ (rLenSt w) from call_lenSt) (by rfl) T.len (by decide +kernel) (pa_cons (pe_callTy (show CallR _ _ (rSetM K w) from cr_setM rfl) (by rfl) T.set (by decide +kernel) (pa_cons (pv 4) pa_nil)) pa_nil)) (pe_callB (show CallR _ _ (rLenS K) from call_lenS) (by rfl) T.len (by decide +kernel) (pa_cons (pv 4) pa_nil)) (nomark _)))))), ?_⟩
    refine ⟨Nat.zero_le _, fun b0 hb0 => ?_⟩
    have s1 : Same H (upd H b0 (.lst [])) := same_upd hb0
    have hB1 : (upd H b0 (.lst [])) b0 = some (.lst (([] : List Nat).map vN)) := upd_same
    generalize upd H b0 (.lst []) = H1 at s1 hB1
    obtain ⟨ways, ew⟩ : ∃ ways, ds.map natsOf = ways := ⟨_, rfl⟩
    rw [ew] at q
    have allW : ∀ (i : Nat) (l : List Nat), ways[i]? = some l → ∃ a, xs[i]? = some (.ref a) ∧ SqT K H a (l.map vN) ∧ wayLB C S l = true := fun i l hl => by
      rw [← ew] at hl
      obtain ⟨d, hd, rfl⟩ := get_map hl
      obtain ⟨x, hx⟩ : ∃ x, xs[i]? = some x := ⟨_, List.getElem?_eq_getElem (by rw [lx]; exact (List.getElem?_eq_some_iff.mp hd).1)⟩
      obtain ⟨d', hd', px⟩ := dpAll_get hD hx
      have : d' = d := Option.some.inj (hd'.symm.trans hd)
      subst this
      obtain ⟨l, e, en, wl⟩ := wayD_is (List.all_eq_true.mp e3 d' (List.mem_of_getElem? hd'))
      rw [en]
      rw [e] at px
      obtain ⟨a, rfl, ha⟩ := lot_dp px
      exact ⟨a, hx, ha, wl⟩
    have lw : ways.length = xs.length := by rw [← ew, List.length_map, lx]
    have most : ∀ i, (behindOf C S F (ways.take i)).length ≤ 900 := fun i => by
      have h1 := (behind_sub (C := C) (S := S) (F := F) (ways := ways) i).length_le
      have h2 := behind_few (C := C) (S := S) (F := F) fine
      rw [ew] at h2
      omega
    refine ⟨_, rfl, t, rfl, ⟨_, Same.sqT s1 hT⟩, for_tup (K := K) (a := t) (xs := xs) (fun i σ H' => ∃ (bh : Addr) (v5 v6 : Option V), σ = [some (.ref c), some (.ref lo), some (.ref fr), some (.ref t), some (.ref bh), v5, v6] ∧ Same H H' ∧ H' bh = some (.lst ((behindOf C S F (ways.take i)).map vN)))
      ⟨b0, _, _, rfl, s1, hB1⟩ (fun i σ H' _ ⟨_, _, _, _, k, _⟩ => Same.sqT k hT) ?_ ?_⟩
    · rintro i x σ H2 hx ⟨bh, v5, v6, rfl, s2, hB2⟩
      obtain ⟨l, hl⟩ : ∃ l, ways[i]? = some l := ⟨_, List.getElem?_eq_getElem (by rw [lw]; exact (List.getElem?_eq_some_iff.mp hx).1)⟩
      obtain ⟨a, hxa, ha, wl⟩ := allW i l hl
      have := Option.some.inj (hx.symm.trans hxa)
      subst this
      have more := behind_more (C := C) (S := S) (F := F) hl
      have m1 := most (i + 1)
      rw [more, List.length_append] at m1
      refine ⟨_, rfl, _, rfl, _, rfl, no_part (slA_of (Same.sqT s2 ha) fun b H3 s3 hB => ?_)⟩
      rw [show (some (1 : Int)) = some ((1 : Nat) : Int) from rfl, cutG_drop, ← List.map_drop] at hB
      have s03 := s2.trans s3
      have hB3 := s3 _ _ hB2
      refine ⟨b, rfl, ⟨_, hB⟩, fun g hg => ?_⟩
      have keep : ∀ {H' : Hp}, Kp [g] H3 H' → Same H3 H' := fun {H'} k b o e' => k b o (fun m => by rw [List.mem_singleton.mp m, hg] at e'; cases e') e'
      refine lc_tup (K := K) (a := b) (xs := (l.drop 1).map vN) (fun j H' => Kp [g] H3 H' ∧ H' g = some (.lst ((((l.drop 1).take j).filter (keptB C S F)).map vN)))
        ⟨(fun b o x e' => by rw [upd_ne (ne_of_none e' hg)]; exact e'), upd_same⟩ (fun j H' _ ⟨k, _⟩ => Same.sqT (keep k) hB) ?_ ?_
      · rintro j y H4 hy ⟨k4, hG4⟩
        obtain ⟨p, hp, rfl⟩ := get_map hy
        have s04 := s03.trans (keep k4)
        obtain ⟨r, wd, ts, hC4⟩ := hCC.same s04
        refine ⟨rfl, ?_⟩
        have hf : ((l.drop 1).take (j + 1)).filter (keptB C S F) = ((l.drop 1).take j).filter (keptB C S F) ++ (if keptB C S F p = true then [p] else []) := by
          rw [take_more hp, List.filter_append, List.filter_cons, List.filter_nil]
        have fj : (((l.drop 1).take j).filter (keptB C S F)).length ≤ 900 := by
          have := ((List.take_sublist j (l.drop 1)).filter (keptB C S F)).length_le
          omega
        have put : keptB C S F p = true → ∃ acc, H4 g = some (.lst acc) ∧ acc.length < sizeLine ∧ (Kp [g] H3 (upd H4 g (.lst (acc ++ [vN p]))) ∧ (upd H4 g (.lst (acc ++ [vN p]))) g = some (.lst ((((l.drop 1).take (j + 1)).filter (keptB C S F)).map vN))) := fun hk => by
          rw [hk, if_pos rfl] at hf
          refine ⟨_, hG4, by rw [List.length_map]; exact small1000 (by omega), ?_, by rw [upd_same, hf, List.map_append]; rfl⟩
          intro b' o nb eb
          rw [upd_ne (fun z => nb (by rw [z]; simp))]
          exact k4 b' o nb eb
        have skip : keptB C S F p = false → Kp [g] H3 H4 ∧ H4 g = some (.lst ((((l.drop 1).take (j + 1)).filter (keptB C S F)).map vN)) := fun hk => by
          rw [hk, if_neg (by simp), List.append_nil] at hf
          exact ⟨k4, by rw [hf]; exact hG4⟩
        refine ⟨_, rfl, _, rfl, fr, _, rfl, .inr (Same.sqT s04 hF), rfl, all_vN F, _, rfl, ?_⟩
        show if (!inV (vN p) (F.map vN)) = true then _ else _
        rw [in_vN]
        by_cases h1 : p ∈ F
        · rw [decide_eq_true h1]
          exact iteF (iteF (skip (by unfold keptB; rw [decide_eq_false (offF p h1), decide_eq_true h1, Bool.or_true]; rfl)))
        · rw [decide_eq_false h1]
          refine iteT ⟨_, rfl, _, rfl, _, _, _, _, rfl, rfl, hC4.top, rfl, wd, _, rfl, .inr hC4.wis, rfl, all_vN C.wished, _, rfl, ?_⟩
          show if inV (vN p) (C.wished.map vN) = true then _ else _
          rw [in_vN]
          by_cases h2 : p ∈ C.wished
          · rw [decide_eq_true h2]
            exact iteT (iteT ⟨_, rfl, put (by unfold keptB; rw [decide_eq_true h2]; rfl)⟩)
          · rw [decide_eq_false h2]
            refine iteF ⟨_, rfl, _, rfl, lo, _, rfl, .inr (Same.sqT s04 hS), rfl, all_vN S, _, rfl, ?_⟩
            show if (!inV (vN p) (S.map vN)) = true then _ else _
            rw [in_vN]
            by_cases h3 : p ∈ S
            · rw [decide_eq_true h3]
              exact iteF (skip (by unfold keptB; rw [decide_eq_false h2, decide_eq_true h3]; rfl))
            · rw [decide_eq_false h3]
              exact iteT ⟨_, rfl, put (by unfold keptB; rw [decide_eq_false h1, decide_eq_false h3, Bool.or_false, Bool.and_false]; rfl)⟩
      · rintro H4 ⟨k4, hG4⟩
        rw [List.length_map, List.take_length] at hG4
        have s4 := keep k4
        refine ⟨bh, g, _, _, rfl, rfl, s4 _ _ hB3, hG4, by rw [List.length_map, List.length_map, sizeLine_eq]; omega, fun nb hnb => ?_⟩
        refine ⟨nb, _, _, rfl, (s03.trans s4).trans (same_upd hnb), ?_⟩
        rw [upd_same, more, List.map_append]
    · rintro σ H2 ⟨bh, v5, v6, rfl, s2, hB2⟩
      rw [← lw, List.take_length] at hB2
      obtain ⟨B, eB⟩ : ∃ B, behindOf C S F ways = B := ⟨_, rfl⟩
      have mB := most ways.length
      rw [List.take_length] at mB
      rw [eB] at hB2 q mB
      have hB3 : H2 bh = some (.lst ((iN B).map V.int)) := by rw [hB2, vN_map]
      refine ⟨_, rfl, bh, iN B, rfl, .inl (.inl (.inl hB3)), by rw [iN_length]; omega, fun p n hp ub lb => ?_⟩
      refine ⟨p, _, n, rfl, upd_same, ?_⟩
      have s3 : Same H2 (upd H2 p (SetO w p (fun j => decide (j ∈ iN B)) n)) := same_upd hp
      refine ⟨_, rfl, _, _, rfl, .inl (.inl (.inl (s3 _ _ hB3))), ?_⟩
      have eq : decide (V.int (n : Int) = V.int (((iN B).map V.int).length : Int)) = decide B.Nodup := by
        rw [List.length_map, iN_length]
        refine decide_eq_decide.mpr ⟨fun e => ?_, fun nd => ?_⟩
        · injection e with e
          refine Classical.byContradiction fun nn => ?_
          obtain ⟨D, h1, h2⟩ := twice_less nn
          have h3 := ub (iN D) fun k hk => by
            obtain ⟨x, hx, rfl⟩ := List.mem_map.mp hk
            exact iN_mem.mpr (h2 x hx)
          rw [iN_length] at h3
          omega
        · have h1 := ub (iN B) fun _ h => h
          have h2 := lb (iN B) (iN_nodup nd) fun _ h => h
          rw [iN_length] at h1 h2
          congr 1
          omega
      refine ⟨rfl, ?_⟩
      rw [eq]
      exact q _ (s2.trans s3)
end
end Ft

set_option Elab.async false
set_option linter.all false
set_option maxRecDepth 100000
set_option maxHeartbeats 8000000
namespace Ft
open PySem PySem.Spec PyProof.Rows L2
open RZ
theorem shows_b9 (b : Bool) : Shows (.bool b) := shows_tame rfl (by simp [nodes]) (by simp [PyData.depth])
theorem free_off {C : Chart} {F : List Nat} (h : freeD C (lotD F) = true) : ∀ p ∈ F, p ∉ C.wished := by
  unfold freeD lotD at h
  simp only [natsL_map, Bool.and_eq_true, Bool.not_eq_true'] at h
  intro p hp hw
  have := List.any_eq_false.mp h.2 p hp
  exact this (decide_eq_true hw)
section
variable {P : Program} {w : World} {K : PySem.W.Frag} {mg : Str → Option Value} {base : Heap} {ca : Str → Addr}
/-! ### _law_way_judged -/
def sp_law_way_judged (K : PySem.W.Frag) : Sp := fun vs H Q _ => ∃ (c lo fr : Addr) (C : Chart) (S F : List Nat) (v : V) (d : PyData), vs = [.ref c, .ref lo, .ref fr, v] ∧ IsChart K H c C ∧ C.Ok ∧ SqT K H lo (S.map vN) ∧ SqT K H fr (F.map vN) ∧ (∀ p ∈ F, p ∉ C.wished) ∧ Dp K H v d ∧ Fine d ∧ ∀ H', Same H H' → Q (.bl (judgeB C S F d)) H'
theorem cal_law_way_judged (T : Txt mg) (D : Def K mg "_law_way_judged" s_law_way_judged) (c_law_way_is_way : Cal P w K mg base 1 "_law_way_is_way" (sp_law_way_is_way K)) (c_law_way_apart : Cal P w K mg base 1 "_law_way_apart" (sp_law_way_apart K)) : Cal P w K mg base 2 "_law_way_judged" (sp_law_way_judged K) := by
  refine cal_of D sc_law_way_judged (fun _ _ _ _ _ _ us hl => match us, hl with | [_, _, _, _], _ => rfl) (fun vs H Q E h => ?_) (fun f cdv A outer s H vs Q E hr h => ?_)
  · obtain ⟨c, lo, fr, C, S, F, v, d, rfl, _⟩ := h
    rfl
  · obtain ⟨c, lo, fr, C, S, F, v, d, rfl, hCC, ok, hS, hF, offF, hd, fine, q⟩ := h
    have hU := hr.units
    refine ⟨_, (pss_cons (ps_if (PW.pt (pw_or (pt_not (pt_val (pe_callB (show CallR _ _ (rIsi K) from call_isi) (by rfl) T.isinstance (by decide +kernel) (pa_cons (pv 3) (pa_cons (pe_bltn (v := .ty "tuple") (u := .type "tuple") (by rfl) T.tuple (by decide +kernel) rfl) pa_nil))))) (pw_or1 (pt_cmpR (show OpR _ _ (rNeD K) from op_neD hU) (pe_lc (own := [("way", 4)]) rfl sc_law_way_judged.nd (show PI _ _ _ (iTup K _) from pi_tup (pv 3)) (blkOk_by (N := ["chart", "lot", "free", "thing", "way"]) (sc := L2.defScope s_law_way_judged) (by decide +kernel)) (fun _ _ _ _ _ => (pg_name (i := 4) sc_law_way_judged.nd rfl (Or.inl rfl))) (fun _ _ _ _ _ => pts_one (pt_not (pt_val (pe_c c_law_way_is_way hr (by decide) (by rfl) (pa_cons (pv 0) (pa_cons (pv 1) (pa_cons (pv 4) pa_nil))))))) (fun _ _ _ _ _ => (pv 4))) (pe_lst pa_nil) (nomark _))))) (pss_one (ps_ret pe_bl)) pss_nil)
      (pss_one (ps_ret (pe_c c_law_way_apart hr (by decide) (by rfl) (pa_cons (pv 0) (pa_cons (pv 1) (pa_cons (pv 2) (pa_cons (pv 3) pa_nil)))))))), ?_⟩
    refine ⟨_, rfl, _, _, _, _, isTup d, rfl, .ty "tuple", isi_dp hd, kit_tup d, isTup d, rfl, ?_⟩
    cases e : isTup d with
    | false =>
      have no : judgeB C S F d = false := by cases d <;> first | rfl | cases e
      rw [no] at q
      exact iteT (iteT (q H fun _ _ h => h))
    | true =>
      obtain ⟨ds, rfl⟩ := isTup_is e
      obtain ⟨t, xs, rfl, hT, hD⟩ := dp_tup hd
      have lx : xs.length = ds.length := dpAll_length hD
      have l2000 := fine.len
      refine iteF ?_
      refine ⟨_, rfl, t, rfl, ⟨_, hT⟩, fun g hg => ?_⟩
      have keep : ∀ {H' : Hp}, Kp [g] H H' → Same H H' := fun {H'} k b o e' => k b o (fun m => by rw [List.mem_singleton.mp m, hg] at e'; cases e') e'
      refine lc_tup (K := K) (a := t) (xs := xs) (fun j H' => ∃ ys, Kp [g] H H' ∧ H' g = some (.lst ys) ∧ DpAll K H ys ((ds.take j).filter fun d => !wayD C S d))
        ⟨[], (fun b o x e' => by rw [upd_ne (ne_of_none e' hg)]; exact e'), upd_same, .nil⟩ (fun j H' _ ⟨_, k, _⟩ => Same.sqT (keep k) hT) ?_ ?_
      · rintro j x H2 hx ⟨ys, k2, hG, hY⟩
        obtain ⟨dx, hdx, px⟩ := dpAll_get hD hx
        have s2 := keep k2
        have jl := (List.getElem?_eq_some_iff.mp hdx).1
        have ly := filt_len hY
        refine ⟨rfl, ?_⟩
        refine ⟨_, rfl, _, rfl, _, rfl, c, lo, C, S, x, dx, rfl, hCC.same s2, ok, Same.sqT s2 hS, Dp.same s2 px, fine.mem (List.mem_of_getElem? hdx), fun H3 s3 => ?_⟩
        have k3 : Kp [g] H H3 := fun b o nb eb => s3 _ _ (k2 b o nb eb)
        have hG3 := s3 _ _ hG
        refine ⟨_, rfl, ?_⟩
        cases e1 : wayD C S dx with
        | false =>
          refine iteT ⟨_, rfl, ys, hG3, by rw [sizeLine_eq]; omega, ys ++ [x], ?_, upd_same, filt_yes hdx px hY (by rw [e1]; rfl)⟩
          intro b o nb eb
          rw [upd_ne (fun z => nb (by rw [z]; simp))]
          exact k3 b o nb eb
        | true => exact iteF ⟨ys, k3, hG3, filt_no hdx hY (by rw [e1]; rfl)⟩
      rintro H2 ⟨ys, k2, hG, hY⟩
      rw [lx, List.take_length] at hY
      have s2 := keep k2
      refine ⟨Nat.zero_le _, fun g2 hg2 => ?_⟩
      have s3 := s2.trans (same_upd (o := .lst []) hg2)
      have hG3 := (same_upd (o := .lst []) hg2) _ _ hG
      have hG4 : (upd H2 g2 (.lst [])) g2 = some (.lst []) := upd_same
      generalize upd H2 g2 (.lst []) = H3 at s3 hG3 hG4
      refine ⟨.list (ds.filter fun d => !wayD C S d), .list [], .lst (.inl (.inl hG3)) (DpAll.same s3 hY), .lst (.inl (.inl hG4)) .nil, fine.sub (fun e he => (List.mem_filter.mp he).1), rfl, _, rfl, ?_⟩
      rw [eqv_nil, filt_none, Bool.not_not]
      have judge : judgeB C S F (.tuple ds) = (ds.all (wayD C S) && decide (behindOf C S F (ds.map natsOf)).Nodup) := rfl
      have anyN : (ds.any fun d => !wayD C S d) = !ds.all (wayD C S) := by rw [List.not_all_eq_any_not]
      rw [anyN]
      cases e1 : ds.all (wayD C S) with
      | false =>
        rw [judge, e1] at q
        exact iteT (q H3 s3)
      | true =>
        rw [judge, e1] at q
        exact iteF ⟨_, rfl, _, rfl, _, rfl, _, rfl, c, lo, fr, t, C, S, F, xs, ds, rfl, hCC.same s3, ok, Same.sqT s3 hS, Same.sqT s3 hF, offF, Same.sqT s3 hT, DpAll.same s3 hD, fine, e1, fun H4 s4 => q H4 (s3.trans s4)⟩
/-! ### _law_told -/
def sp_law_told (K : PySem.W.Frag) : Sp := fun vs H Q _ => ∃ (c lo fr : Addr) (C : Chart) (S F : List Nat) (v : V) (d : PyData), vs = [.ref c, .ref lo, .ref fr, v] ∧ IsChart K H c C ∧ C.Ok ∧ C.roads.length < 64 ∧ SqT K H lo (S.map vN) ∧ lotOk C.n (lotD S) = true ∧ SqT K H fr (F.map vN) ∧ freeD C (lotD F) = true ∧ Dp K H v d ∧ Fine d ∧ ∀ H', Same H H' → Q (.bl true) H'
theorem cal_law_told (T : Txt mg) (D : Def K mg "_law_told" s_law_told) (c_ways_right : Cal P w K mg base 7 "ways_right" (sp_ways_right K)) (c_law_way_judged : Cal P w K mg base 2 "_law_way_judged" (sp_law_way_judged K)) : CalG P w K mg base 8 "_law_told" (sp_law_told K) := by
  refine calG_of D sc_law_told (fun _ _ _ _ _ _ us hl => match us, hl with | [_, _, _, _], _ => rfl) (fun vs H Q E h => ?_) (fun f cdv A outer s H vs Q E hg hr h => ?_)
  · obtain ⟨c, lo, fr, C, S, F, v, d, rfl, _⟩ := h
    rfl
  · obtain ⟨c, lo, fr, C, S, F, v, d, rfl, hCC, ok, few, hS, okS, hF, okF, hd, fine, q⟩ := h
    have hU := hr.units
    have hG := hg
    refine ⟨_, (pss_one (ps_ret (pe_cmpR op_eq (pe_callB (show CallR _ _ (rRepr K) from cr_repr hG hU) (by rfl) T.repr (by decide +kernel) (pa_cons (pe_c c_ways_right hr (by decide) (by rfl) (pa_cons (pv 0) (pa_cons (pv 1) (pa_cons (pv 2) (pa_cons (pv 3) pa_nil))))) pa_nil)) (pe_callB (show CallR _ _ (rRepr K) from cr_repr hG hU) (by rfl) T.repr (by decide +kernel) (pa_cons (pe_c c_law_way_judged hr (by decide) (by rfl) (pa_cons (pv 0) (pa_cons (pv 1) (pa_cons (pv 2) (pa_cons (pv 3) pa_nil))))) pa_nil)) (nomark _)))), ?_⟩
    refine ⟨_, rfl, _, rfl, _, rfl, _, rfl, .ref c, .ref lo, .ref fr, v, _, _, _, d, rfl, dp_chart hCC, dp_lot hS, dp_lot hF, hd, fine, fun h => ?_, fun C' ec ok' => ?_⟩
    · rw [mapErr_chart ok] at h
      cases h
    have := chartD_inj ec
    subst this
    refine ⟨few, fun h => (by rw [okS] at h; cases h), fun h => (by rw [okF] at h; cases h), fun S' F' es ef _ _ H1 s1 => ?_⟩
    have e1 := lotD_inj es
    have e2 := lotD_inj ef
    subst e1 e2
    refine ⟨_, .bool (judgeB C S F d), rfl, .bl _, shows_b9 _, ?_⟩
    refine ⟨_, rfl, _, rfl, _, rfl, _, rfl, c, lo, fr, C, S, F, v, d, rfl, hCC.same s1, ok, Same.sqT s1 hS, Same.sqT s1 hF, free_off okF, Dp.same s1 hd, fine, fun H2 s2 => ?_⟩
    refine ⟨_, .bool (judgeB C S F d), rfl, .bl _, shows_b9 _, ?_⟩
    refine ⟨rfl, ?_⟩
    have z := q _ (s1.trans s2)
    simpa using z
end
end Ft

set_option Elab.async false
set_option linter.all false
set_option maxRecDepth 100000
set_option maxHeartbeats 8000000
namespace Ft
open PySem PySem.Spec PyProof.Rows L2
/-- pairs as fresh tuples -/
def TupsAt (H : Hp) (L : List (Addr × (Nat × Nat))) : Prop := ∀ r ∈ L, H r.1 = some (.tup [vN r.2.1, vN r.2.2])
theorem TupsAt.keep {ex : List Addr} {H H' : Hp} (k : Kp ex H H') (l : Lists ex H) {L : List (Addr × (Nat × Nat))} (h : TupsAt H L) : TupsAt H' L := fun r hr => by
  refine k _ _ (fun m => ?_) (h r hr)
  obtain ⟨o, e, n, _⟩ := l _ m
  rw [h r hr] at e
  exact n _ (Option.some.inj e).symm
theorem TupsAt.same {H H' : Hp} (k : Same H H') {L : List (Addr × (Nat × Nat))} (h : TupsAt H L) : TupsAt H' L := fun r hr => k _ _ (h r hr)
theorem TupsAt.set {H : Hp} {d : Addr} {xs : List V} {o : HO} (hd : H d = some (.lst xs)) {L : List (Addr × (Nat × Nat))} (h : TupsAt H L) : TupsAt (upd H d o) L := fun r hr => by
  have := h r hr
  rw [upd_ne (fun z => by rw [z, hd] at this; cases this)]
  exact this
theorem TupsAt.add {H : Hp} {t : Addr} {p : Nat × Nat} {L : List (Addr × (Nat × Nat))} (h : TupsAt H L) (ht : H t = some (.tup [vN p.1, vN p.2])) : TupsAt H (L ++ [(t, p)]) := fun r hr => by
  rcases List.mem_append.mp hr with hr | hr
  · exact h r hr
  · rw [List.mem_singleton.mp hr]
    exact ht
theorem TupsAt.pairs {K : PySem.W.Frag} {H : Hp} : ∀ {L : List (Addr × (Nat × Nat))}, TupsAt H L → PairsAt K H (L.map (·.1)) (L.map (·.2))
  | [], _ => .nil
  | r :: L, h => .cons (.inl (.inl (h r List.mem_cons_self))) (TupsAt.pairs fun q hq => h q (List.mem_cons_of_mem _ hq))
theorem TupsAt.not {H : Hp} {d : Addr} {xs : List V} (hd : H d = some (.lst xs)) {L : List (Addr × (Nat × Nat))} (h : TupsAt H L) : ∀ r ∈ L, r.1 ≠ d := fun r hr z => by
  have := h r hr
  rw [z, hd] at this
  cases this
theorem floor_nat (i z : Nat) : (i : Int) / (1 + (z : Int)) * (1 + (z : Int)) = ((i / (1 + z) * (1 + z) : Nat) : Int) := by
  push_cast
  rfl
section
variable {P : Program} {w : World} {K : PySem.W.Frag} {mg : Str → Option Value} {base : Heap} {t1 t2 : Tok}
/-! ### _law_map_drawn -/
def sp_law_map_drawn (K : PySem.W.Frag) : Sp := fun vs H Q _ => ∃ (p l : Addr) (most : Nat), vs = [.ref p, vN most] ∧ PoolAt H p l ∧ most ≤ 20 ∧ ∀ (c : Addr) (C : Chart) (H' : Hp), IsChart K H' c C → C.Ok → C.n ≤ most → C.roads.length < 64 → PoolAt H' p l → Kp [p, l] H H' → Q (.ref c) H'
theorem Named.few {n : Nat} {prs : List (Nat × Nat)} {ws perm : List Nat} {C : Chart} (h : Named n prs ws perm C) : C.roads.length ≤ prs.length := by
  have nd : C.roads.Nodup := h.ok.upR.imp fun {a b} hab (e : a = b) => by
    subst e
    unfold ltP at hab
    omega
  have h1 := nodup_sub_len C.roads (prs.map fun q => (nm perm q.1, nm perm q.2)) nd fun q hq => by
    obtain ⟨a, b, hab, e1, e2⟩ := (h.roads q.1 q.2).mp hq
    exact List.mem_map.mpr ⟨(a, b), hab, Prod.ext e1.symm e2.symm⟩
  rwa [List.length_map] at h1
theorem cal_law_map_drawn (T : Txt mg) (D : Def K mg "_law_map_drawn" s_law_map_drawn) (c_law_draw : Cal P w K mg base 2 "_law_draw" sp_law_draw) (c_law_map_named : Cal P w K mg base 4 "_law_map_named" (sp_law_map_named K))
    (c_law_map_some_wished : Cal P w K mg base 3 "_law_map_some_wished" (sp_law_map_some_wished K)) : Cal P w K mg base 5 "_law_map_drawn" (sp_law_map_drawn K) := by
  refine cal_of D sc_law_map_drawn (fun _ _ _ _ _ _ us hl => match us, hl with | [_, _], _ => rfl) (fun vs H Q E h => ?_) (fun f cdv A outer s H vs Q E hr h => ?_)
  · obtain ⟨p, l, most, rfl, _⟩ := h
    rfl
  · obtain ⟨p, l, most, rfl, hP, m20, q⟩ := h
    have hU := hr.units
    refine ⟨_, (pss_cons (ps_set (i := 2) sc_law_map_drawn.nd rfl (Or.inr rfl) (pe_c c_law_draw hr (by decide) (by rfl) (pa_cons (pv 0) (pa_cons (pe_op op_add (pv 1) pe_int) pa_nil))))
      (pss_cons (ps_if (pt_cmpR op_eq (pv 2) pe_int (nomark _)) (pss_one (ps_ret (pe_tup (pa_cons pe_int (pa_cons (pe_tup pa_nil) (pa_cons (pe_tup pa_nil) pa_nil)))))) pss_nil)
      (pss_cons (ps_par (i := 3) (j := 4) (by rfl) sc_law_map_drawn.nd rfl rfl (by decide) rfl rfl (pa_cons (pe_c c_law_draw hr (by decide) (by rfl) (pa_cons (pv 0) (pa_cons pe_int pa_nil))) (pa_cons (pe_lst pa_nil) pa_nil)) (by rfl))
      (pss_cons (ps_for PassesOwn.never rfl (pi_range1 (by rfl) T.range (pa_cons (pe_c c_law_draw hr (by decide) (by rfl) (pa_cons (pv 0) (pa_cons (pe_op op_add (pe_op op_mul pe_int (pv 2)) pe_int) pa_nil))) pa_nil)) (pg_name (i := 5) sc_law_map_drawn.nd rfl (Or.inl rfl)) (pss_cons (ps_par (i := 6) (j := 7) (by rfl) sc_law_map_drawn.nd rfl rfl (by decide) rfl rfl (pa_cons (pe_c c_law_draw hr (by decide) (by rfl) (pa_cons (pv 0) (pa_cons (pv 2) pa_nil))) (pa_cons (pe_c c_law_draw hr (by decide) (by rfl) (pa_cons (pv 0) (pa_cons (pv 2) pa_nil))) pa_nil)) (by rfl))
        (pss_cons (ps_set (i := 8) sc_law_map_drawn.nd rfl (Or.inl rfl) (pe_mid (pe_or (pe_cmpR op_eq (pv 3) pe_int (nomark _)) (pe_one (pe_and (pe_cmpR op_gt (pv 3) pe_int (nomark _)) (pe_one (pe_cmpR op_gt (pe_c c_law_draw hr (by decide) (by rfl) (pa_cons (pv 0) (pa_cons pe_int pa_nil))) pe_int (nomark _))))))))
        (pss_one (ps_expr (pe_bm PySem.F.plainAttrs_list PySem.F.slot_list_append PySem.F.type_list_append mt_append (pv 4) (pa_cons (pe_mid (pe_ifExp (pt_truth (pv 8) (by intro _; rfl)) (pe_tup (pa_cons (pe_callB (call_min2 rfl) (by rfl) T.min (by decide +kernel) (pa_cons (pv 6) (pa_cons (pv 7) pa_nil))) (pa_cons (pe_callB (call_max2 rfl) (by rfl) T.max (by decide +kernel) (pa_cons (pv 6) (pa_cons (pv 7) pa_nil))) pa_nil))) (pe_tup (pa_cons (pv 6) (pa_cons (pv 7) pa_nil))))) pa_nil)))))))
      (ps_cut (ps_if (pt_cmpR op_eq (pv 3) pe_int (nomark _)) (pss_cons (ps_set (i := 9) sc_law_map_drawn.nd rfl (Or.inr rfl) (pe_op op_add pe_int (pe_c c_law_draw hr (by decide) (by rfl) (pa_cons (pv 0) (pa_cons pe_int pa_nil)))))
        (pss_one (ps_set (i := 4) sc_law_map_drawn.nd rfl (Or.inl rfl) (pe_op op_cat (pv 4) (pe_lc (own := [("a", 6)]) rfl sc_law_map_drawn.nd (pi_range1 (by rfl) T.range (pa_cons (pe_op op_sub (pv 2) pe_int) pa_nil)) (blkOk_by (N := ["pool", "most", "places", "way", "roads", "turn", "a", "b", "ahead", "size"]) (sc := L2.defScope s_law_map_drawn) (by decide +kernel)) (fun _ _ _ _ _ => (pg_name (i := 6) sc_law_map_drawn.nd rfl (Or.inl rfl))) (fun _ _ _ _ _ => pts_nil) (fun _ _ _ _ _ => (pe_tup (pa_cons (pv 6) (pa_cons (pe_mid (pe_ifExp (PW.pt (pw_and (pt_cmpR op_gt (pe_op op_mod (pe_callTy call_int1 (by rfl) T.int (by decide +kernel) (pa_cons (pe_op op_add (pv 6) pe_int) pa_nil)) (pv 9)) pe_int (nomark _)) (pw_and1 (pt_cmpR op_lt (pe_op op_add (pv 6) pe_int) (pv 2) (nomark _))))) (pe_op op_add (pv 6) pe_int) (pe_op op_mul (pe_op op_fdiv (pv 6) (pv 9)) (pv 9)))) pa_nil))))))))) pss_nil)
      (pss_one (ps_ret (pe_ix (show IxR _ (rIxL K) from ix_list) (pe_c c_law_map_named hr (by decide) (by rfl) (pa_cons (pv 0) (pa_cons (pv 2) (pa_cons (pv 4) (pa_cons (pe_c c_law_map_some_wished hr (by decide) (by rfl) (pa_cons (pv 0) (pa_cons (pv 2) (pa_cons (pv 4) pa_nil)))) pa_nil))))) pe_int (fun _ _ => rfl))))))))), ?_⟩
    refine ⟨_, rfl, _, rfl, _, _, rfl, rfl, p, l, most + 1, rfl, hP, by omega, by omega, fun n H1 hn hP1 k1 => ?_⟩
    refine ⟨_, rfl, rfl, _, rfl, ite_any (fun h0 => ?_) (fun h0 => ?_)⟩
    · have hn0 : n = 0 := by
        have := of_decide_eq_true h0
        unfold vN at this
        have := V.int.inj this
        omega
      refine ⟨Nat.zero_le _, fun r1 h1 => ?_⟩
      have s1 : Same H1 (upd H1 r1 (.tup [])) := same_upd h1
      have hT1 : (upd H1 r1 (.tup [])) r1 = some (.tup []) := upd_same
      generalize upd H1 r1 (.tup []) = H2 at s1 hT1
      refine ⟨Nat.zero_le _, fun r2 h2 => ?_⟩
      have s2 : Same H2 (upd H2 r2 (.tup [])) := same_upd h2
      have hT2 : (upd H2 r2 (.tup [])) r2 = some (.tup []) := upd_same
      generalize upd H2 r2 (.tup []) = H3 at s2 hT2
      refine ⟨by show 3 ≤ sizeLine; decide, fun c hc => ?_⟩
      have s3 : Same H3 (upd H3 c (.tup [.int 0, .ref r1, .ref r2])) := same_upd hc
      have s13 := (s1.trans s2).trans s3
      refine q c ⟨0, [], []⟩ _ ⟨r1, r2, [], .inl (.inl upd_same), .inl (.inl (s3 _ _ (s2 _ _ hT1))), .nil, .inl (.inl (s3 _ _ hT2))⟩ ⟨by decide, by decide, (fun _ h => nomatch h), .nil, (fun _ h => nomatch h), .nil⟩ (Nat.zero_le _) (by show (0 : Nat) < 64; decide) (hP1.same s13) (k1.trans (Same.kp s13))
    have hn0 : 0 < n := by
      have := of_decide_eq_false h0
      unfold vN at this
      rcases Nat.eq_zero_or_pos n with e | e
      · exact absurd (by rw [e]; rfl) this
      · exact e
    refine ⟨_, rfl, p, l, 4, rfl, hP1, by decide, by decide, fun way H2 hway hP2 k2 => ?_⟩
    refine ⟨Nat.zero_le _, fun d hd => ?_⟩
    have s3 : Same H2 (upd H2 d (.lst [])) := same_upd hd
    have hD3 : (upd H2 d (.lst [])) d = some (.lst []) := upd_same
    have dpl : d ∉ [p, l] := hP2.free hd
    have hP3 := hP2.same s3
    have k3 : Kp [p, l] H (upd H2 d (.lst [])) := (k1.trans k2).trans (Same.kp s3)
    have hd0 : H d = none := kp_free (k1.trans k2) dpl hd
    generalize upd H2 d (.lst []) = H3 at s3 hD3 hP3 k3
    refine ⟨_, _, rfl, ?_⟩
    refine ⟨_, rfl, _, rfl, _, _, rfl, rfl, .inl ⟨by decide, by decide⟩, _, _, rfl, rfl, p, l, 2 * n + 2, rfl, hP3, by omega, by omega, fun m H4 hm hP4 k4 => ?_⟩
    have hD4 := k4 _ _ dpl hD3
    have kset : ∀ {H' : Hp} {o : HO}, Kp [p, l] H H' → Kp [p, l] H (upd H' d o) := fun {H' o} k b x nb e => by
      rw [upd_ne (ne_of_none e hd0)]
      exact k b x nb e
    refine ⟨_, rfl, by omega, by omega, for_range (lo := 0) (n := m) (fun i σ H' => ∃ (L : List (Addr × (Nat × Nat))) (v5 v6 v7 v8 : Option V), σ = [some (.ref p), some (vN most), some (vN n), some (vN way), some (.ref d), v5, v6, v7, v8, none] ∧ PoolAt H' p l ∧ Kp [p, l] H H' ∧ H' d = some (.lst (L.map fun r => V.ref r.1)) ∧ TupsAt H' L ∧ (∀ r ∈ L, r.2.1 < n ∧ r.2.2 < n) ∧ L.length = i)
      ⟨[], _, _, _, _, rfl, hP4, k3.trans k4, hD4, (fun _ h => nomatch h), (fun _ h => nomatch h), rfl⟩ ?_ ?_⟩
    · rintro i σ H5 hi ⟨L, v5, v6, v7, v8, rfl, hP5, k5, hD5, hL5, inL, eL⟩
      refine ⟨_, rfl, _, rfl, p, l, n, rfl, hP5, by omega, by omega, fun a H6 ha hP6 k6 => ?_⟩
      refine ⟨_, rfl, _, rfl, p, l, n, rfl, hP6, by omega, by omega, fun b H7 hb hP7 k7 => ?_⟩
      refine ⟨_, _, rfl, ?_⟩
      have k67 := k6.trans k7
      have hD7 := k67 _ _ dpl hD5
      have hL7 : TupsAt H7 L := hL5.keep k67 hP5.lists
      refine ⟨fun v H' => ∃ c : Bool, v = .bl c ∧ PoolAt H' p l ∧ Kp [p, l] H7 H', ⟨_, rfl, rfl, _, rfl, ite_any (fun _ => ⟨_, rfl, hP7, Kp.refl _ _⟩) (fun _ => ⟨_, rfl, _, _, rfl, rfl, _, rfl, ite_any (fun _ => ?_) (fun _ => ⟨_, rfl, hP7, Kp.refl _ _⟩)⟩)⟩, ?_⟩
      · exact ⟨_, rfl, p, l, 5, rfl, hP7, by decide, by decide, fun r H8 hr8 hP8 k8 => ⟨_, _, rfl, rfl, _, rfl, hP8, k8⟩⟩
      rintro v H8 ⟨c, rfl, hP8, k8⟩
      have hD8 := k8 _ _ dpl hD7
      have hL8 : TupsAt H8 L := hL7.keep k8 hP7.lists
      refine ⟨_, rfl, .inl ⟨rfl, _, .inl (.inl hD8)⟩, ?_⟩
      refine ⟨fun v H' => ∃ (t : Addr) (x y : Nat), v = .ref t ∧ H8 t = none ∧ H' = upd H8 t (.tup [vN x, vN y]) ∧ x < n ∧ y < n, ⟨_, rfl, _, rfl, ite_any (fun _ => ?_) (fun _ => ?_)⟩, ?_⟩
      · refine ⟨_, rfl, _, rfl, _, _, rfl, _, rfl, _, rfl, _, _, rfl, by show 2 ≤ sizeLine; decide, fun t ht => ?_⟩
        have e1 : V.int (if (b : Int) < (a : Int) then (b : Int) else (a : Int)) = vN (if b < a then b else a) := by
          by_cases h : b < a
          · rw [if_pos h, if_pos (by omega)]
            rfl
          · rw [if_neg h, if_neg (by omega)]
            rfl
        have e2 : V.int (if (a : Int) < (b : Int) then (b : Int) else (a : Int)) = vN (if a < b then b else a) := by
          by_cases h : a < b
          · rw [if_pos h, if_pos (by omega)]
            rfl
          · rw [if_neg h, if_neg (by omega)]
            rfl
        refine ⟨t, (if b < a then b else a), (if a < b then b else a), rfl, ht, by rw [← e1, ← e2], ?_, ?_⟩
        · by_cases h : b < a
          · rw [if_pos h]; exact hb
          · rw [if_neg h]; exact ha
        · by_cases h : a < b
          · rw [if_pos h]; exact hb
          · rw [if_neg h]; exact ha
      · exact ⟨_, rfl, _, rfl, by show 2 ≤ sizeLine; decide, fun t ht => ⟨t, a, b, rfl, ht, rfl, ha, hb⟩⟩
      rintro v H9 ⟨t, x, y, rfl, ht, rfl, hx, hy⟩
      have s9 : Same H8 (upd H8 t (.tup [vN x, vN y])) := same_upd ht
      have hT9 : (upd H8 t (.tup [vN x, vN y])) t = some (.tup [vN x, vN y]) := upd_same
      have hD9 := s9 _ _ hD8
      refine ⟨d, _, _, rfl, rfl, hD9, by rw [List.length_map]; exact small1000 (by omega), L ++ [(t, (x, y))], _, _, _, _, rfl, (hP8.same s9).set dpl, kset ((k5.trans (k67.trans k8)).trans (Same.kp s9)), by rw [upd_same, List.map_append]; rfl, ((hL8.same s9).add hT9).set hD9, ?_, by rw [List.length_append, eL]; rfl⟩
      intro r hr'
      rcases List.mem_append.mp hr' with hr' | hr'
      · exact inL r hr'
      · rw [List.mem_singleton.mp hr']
        exact ⟨hx, hy⟩
    rintro σ H5 ⟨L, v5, v6, v7, v8, rfl, hP5, k5, hD5, hL5, inL, eL⟩
    refine ⟨fun σ' H' => ∃ (ro : Addr) (L' : List (Addr × (Nat × Nat))) (v5 v6 v7 v8 v9 : Option V), σ' = [some (.ref p), some (vN most), some (vN n), some (vN way), some (.ref ro), v5, v6, v7, v8, v9] ∧ PoolAt H' p l ∧ Kp [p, l] H H' ∧ ro ∉ [p, l] ∧ H' ro = some (.lst (L'.map fun r => V.ref r.1)) ∧ TupsAt H' L' ∧ (∀ r ∈ L', r.2.1 < n ∧ r.2.2 < n) ∧ L'.length < 64, ?_, ?_⟩
    · refine ⟨_, rfl, rfl, _, rfl, ite_any (fun _ => ?_) (fun _ => ?_)⟩
      · refine ⟨_, rfl, p, l, 3, rfl, hP5, by decide, by decide, fun z H6 hz hP6 k6 => ?_⟩
        have hD6 := k6 _ _ dpl hD5
        have hL6 : TupsAt H6 L := hL5.keep k6 hP5.lists
        refine ⟨_, _, rfl, rfl, ?_⟩
        refine ⟨_, rfl, _, rfl, _, _, rfl, rfl, _, rfl, by omega, by omega, fun e he => ?_⟩
        have epl : e ∉ [p, l] := hP6.free he
        have hde : d ≠ e := ne_of_none hD6 he
        refine lc_range (lo := 0) (n := ((n : Int) - 1).toNat) (fun i H' => ∃ M : List (Addr × (Nat × Nat)), Kp [e] H6 H' ∧ H' e = some (.lst (M.map fun r => V.ref r.1)) ∧ TupsAt H' M ∧ (∀ r ∈ M, r.2.1 < n ∧ r.2.2 < n) ∧ M.length ≤ i)
          ⟨[], (fun b o x e' => by rw [upd_ne (ne_of_none e' he)]; exact e'), upd_same, (fun _ h => nomatch h), (fun _ h => nomatch h), Nat.zero_le _⟩ ?_ ?_
        · rintro i H7 hi ⟨M, k7, hE, hM, inM, eM⟩
          have e0 : (0 : Int) + (i : Nat) = (i : Nat) := by omega
          refine ⟨rfl, ?_⟩
          rw [e0]
          refine ⟨_, rfl, fun v H' => ∃ x : Nat, x < n ∧ v = vN x ∧ H' = H7, ?_, ?_⟩
          · have fl : ∃ x : Nat, x < n ∧ V.int ((i : Int) / (1 + (z : Int)) * (1 + (z : Int))) = vN x ∧ H7 = H7 := by
              refine ⟨i / (1 + z) * (1 + z), ?_, congrArg V.int (floor_nat i z), rfl⟩
              have := Nat.div_mul_le_self i (1 + z)
              omega
            have z1 : (0 : Int) < 1 + (z : Int) := by omega
            have z2 : (1 : Int) + (z : Int) < 1073741824 := by omega
            have z3 : -2 ^ 64 < (1 : Int) + (z : Int) := by omega
            have z4 : (1 : Int) + (z : Int) < 2 ^ 64 := by omega
            refine ⟨_, rfl, _, _, rfl, rfl, .inl ⟨_, rfl, _, rfl, _, _, rfl, rfl, z1, _, _, rfl, rfl, _, rfl, ite_any (fun _ => ?_) (fun _ => ?_)⟩⟩
            · refine ⟨_, rfl, _, _, rfl, rfl, _, rfl, _, _, rfl, rfl, _, rfl, ite_any (fun hx => ?_) (fun _ => ?_)⟩
              · have hx' := of_decide_eq_true hx
                exact ⟨_, rfl, _, _, rfl, rfl, i + 1, by omega, rfl, rfl⟩
              · exact ⟨_, rfl, _, rfl, _, _, rfl, rfl, ⟨z1, z2⟩, _, rfl, _, _, rfl, rfl, .inr ⟨z3, z4⟩, fl⟩
            · exact ⟨_, rfl, _, rfl, _, _, rfl, rfl, ⟨z1, z2⟩, _, rfl, _, _, rfl, rfl, .inr ⟨z3, z4⟩, fl⟩
          rintro v H8 ⟨x, hx, rfl, rfl⟩
          refine ⟨by show 2 ≤ sizeLine; decide, fun t ht => ?_⟩
          have s9 : Same H8 (upd H8 t (.tup [vN i, vN x])) := same_upd ht
          have hT9 : (upd H8 t (.tup [vN i, vN x])) t = some (.tup [vN i, vN x]) := upd_same
          have hE9 := s9 _ _ hE
          refine ⟨_, hE9, by rw [List.length_map]; exact small1000 (by omega), M ++ [(t, (i, x))], ?_, by rw [upd_same, List.map_append]; rfl, ((hM.same s9).add hT9).set hE9, ?_, by rw [List.length_append]; exact Nat.succ_le_succ eM⟩
          · intro b o nb eb
            rw [upd_ne (fun z => nb (by rw [z]; simp))]
            exact s9 _ _ (k7 b o nb eb)
          · intro r hr'
            rcases List.mem_append.mp hr' with hr' | hr'
            · exact inM r hr'
            · rw [List.mem_singleton.mp hr']
              exact ⟨by show i < n; omega, hx⟩
        · rintro H7 ⟨M, k7, hE, hM, inM, eM⟩
          have s7 : Same H6 H7 := fun b o eb => k7 b o (fun m => by rw [List.mem_singleton.mp m, he] at eb; cases eb) eb
          have hP7 := hP6.same s7
          refine ⟨d, e, _, _, rfl, rfl, s7 _ _ hD6, hE, ?_, fun ro hro => ?_⟩
          · rw [List.length_map, List.length_map]
            have h3 : (1000 : Nat) ≤ sizeLine := by decide
            omega
          · have s8 : Same H7 (upd H7 ro (.lst ((L.map fun r => V.ref r.1) ++ M.map fun r => V.ref r.1))) := same_upd hro
            refine ⟨ro, L ++ M, _, _, _, _, _, rfl, hP7.same s8, (k5.trans k6).trans (Same.kp (s7.trans s8)), hP7.free hro, by rw [upd_same, List.map_append], ?_, ?_, by rw [List.length_append]; omega⟩
            · intro r hr'
              rcases List.mem_append.mp hr' with hr' | hr'
              · exact (hL6.same (s7.trans s8)) r hr'
              · exact (hM.same s8) r hr'
            · intro r hr'
              rcases List.mem_append.mp hr' with hr' | hr'
              · exact inL r hr'
              · exact inM r hr'
      · exact ⟨d, L, _, _, _, _, _, rfl, hP5, k5, dpl, hD5, hL5, inL, by omega⟩
    · rintro σ' H6 ⟨ro, L', v5, v6, v7, v8, v9, rfl, hP6, k6, rpl, hRo, hL', inL', few⟩
      have ePr : (L'.map fun r => V.ref r.1) = (L'.map (·.1)).map V.ref := by rw [List.map_map]; rfl
      rw [ePr] at hRo
      have len : (L'.map (·.2)).length < 64 := by rw [List.length_map]; exact few
      refine ⟨_, rfl, _, rfl, _, rfl, _, rfl, _, rfl, _, rfl, p, l, ro, n, L'.map (·.1), L'.map (·.2), rfl, hP6, by omega, hRo, rpl, hL'.pairs, len, fun wi ws H7 nd ltw hw0 hW hP7 k7 => ?_⟩
      have hRo7 := k7 _ _ rpl hRo
      refine ⟨p, l, ro, wi, n, L'.map (·.1), L'.map (·.2), ws, rfl, hP7, by omega, hRo7, rpl, hL'.pairs.keep k7 hP6.lists, len, ?_, hW, hP6.free hw0, ?_, ltw, fun q' c na perm C H8 pm _ _ hQ hC _ nmd hP8 k8 => ?_⟩
      · intro r hr'
        obtain ⟨z, hz, rfl⟩ := List.mem_map.mp hr'
        exact inL' z hz
      · have := nodup_lt_len nd ltw
        omega
      · refine ⟨q', _, _, _, rfl, rfl, .inl (.inl hQ), rfl, ?_⟩
        exact q c C H8 hC nmd.ok (by rw [nmd.n]; omega) (Nat.lt_of_le_of_lt nmd.few len) hP8 ((k6.trans k7).trans k8)
end
end Ft

set_option Elab.async false
set_option linter.all false
set_option maxRecDepth 100000
set_option maxHeartbeats 4000000
/-! Expressions over data that change nothing: what data they give. -/
namespace Ft
open PySem PySem.Spec PyProof.Rows L2
def Gv (K : PySem.W.Frag) (σ : L2.St) (H : Hp) (t : TE) (d : PyData) : Prop := ∀ H1, Same H H1 → ∀ Q : VK, (∀ v H', Same H1 H' → Dp K H' v d → Q v H') → t σ H1 Q
def GvA (K : PySem.W.Frag) (σ : L2.St) (H : Hp) (t : TA) (ds : List PyData) : Prop := ∀ H1, Same H H1 → ∀ Q : List V → Hp → Prop, (∀ vs H', Same H1 H' → DpAll K H' vs ds → Q vs H') → t σ H1 Q
theorem Same.rfl' (H : Hp) : Same H H := fun _ _ h => h
section
variable {K : PySem.W.Frag} {σ : L2.St} {H : Hp} {t ta tb te : TE} {tr : TA} {d : PyData} {ds es : List PyData} {Q : VK}
theorem Gv.go (g : Gv K σ H t d) (q : ∀ v H', Same H H' → Dp K H' v d → Q v H') : t σ H Q := g H (Same.rfl' H) Q q
theorem Gv.same {H' : Hp} (s : Same H H') (g : Gv K σ H t d) : Gv K σ H' t d := fun H1 s1 Q q => g H1 (s.trans s1) Q q
theorem gv_int {i : Int} : Gv K σ H (tC (.int i)) (.int i) := fun H1 _ Q q => q _ H1 (Same.rfl' _) (.int _)
theorem gv_bl {b : Bool} : Gv K σ H (tC (.bl b)) (.bool b) := fun H1 _ Q q => q _ H1 (Same.rfl' _) (.bl _)
theorem gv_non : Gv K σ H (tC .non) .none := fun H1 _ Q q => q _ H1 (Same.rfl' _) .non
theorem gv_str {z : Str} : Gv K σ H (tC (.str z)) (.str z) := fun H1 _ Q q => q _ H1 (Same.rfl' _) (.str _)
theorem gv_var {i : Nat} {v : V} (e : σ[i]? = some (some v)) (h : Dp K H v d) : Gv K σ H (tVar i) d := fun H1 s Q q => ⟨v, e, q v H1 (Same.rfl' _) (Dp.same s h)⟩
theorem gv_neg {i : Int} (g : Gv K σ H t (.int i)) : Gv K σ H (tUn (rU fun i => V.int (-i)) t) (.int (-i)) := fun H1 s Q q => g H1 s _ fun v H' s' h => by
  cases dp_int h
  exact ⟨i, rfl, q _ H' s' (.int _)⟩
theorem gva_nil : GvA K σ H tNil [] := fun H1 _ Q q => q _ H1 (Same.rfl' _) .nil
theorem gva_cons (g : Gv K σ H t d) (gs : GvA K σ H tr ds) : GvA K σ H (tCons t tr) (d :: ds) := fun H1 s Q q => g H1 s _ fun v H2 s2 h => gs H2 (s.trans s2) _ fun vs H3 s3 hs => q _ H3 (s2.trans s3) (.cons (Dp.same s3 h) hs)
theorem gv_tup (g : GvA K σ H tr ds) (few : ds.length ≤ 1000) : Gv K σ H (tTup tr) (.tuple ds) := fun H1 s Q q => g H1 s _ fun vs H2 s2 hs => by
  have big : (1000 : Nat) ≤ sizeLine := by decide
  have len := dpAll_length hs
  exact ⟨by omega, fun p hp => q _ _ (s2.trans (same_upd hp)) (.tup (.inl (.inl upd_same)) (DpAll.same (same_upd hp) hs))⟩
theorem gv_lst (g : GvA K σ H tr ds) (few : ds.length ≤ 1000) : Gv K σ H (tLst tr) (.list ds) := fun H1 s Q q => g H1 s _ fun vs H2 s2 hs => by
  have big : (1000 : Nat) ≤ sizeLine := by decide
  have len := dpAll_length hs
  exact ⟨by omega, fun p hp => q _ _ (s2.trans (same_upd hp)) (.lst (.inl (.inl upd_same)) (DpAll.same (same_upd hp) hs))⟩
theorem gv_ixT {j : Nat} (g : Gv K σ H ta (.tuple ds)) (g2 : Gv K σ H tb (.int (j : Int))) (e : ds[j]? = some d) : Gv K σ H (tOp (rIxT K) ta tb) d := fun H1 s Q q => g H1 s _ fun v H2 s2 h => g2 H2 (s.trans s2) _ fun u H3 s3 h3 => by
  cases dp_int h3
  obtain ⟨a, xs, rfl, hs, ha⟩ := dp_tup (Dp.same s3 h)
  obtain ⟨x, hx, dx⟩ := dpAll_getD ha e
  exact ⟨a, xs, (j : Int), x, rfl, rfl, hs, atI_nat hx, q _ _ (s2.trans s3) dx⟩
theorem gv_cat (g : Gv K σ H ta (.tuple ds)) (g2 : Gv K σ H tb (.tuple es)) (few : ds.length + es.length ≤ 1000) : Gv K σ H (tOp (rCatA K) ta tb) (.tuple (ds ++ es)) := fun H1 s Q q => g H1 s _ fun v H2 s2 h => g2 H2 (s.trans s2) _ fun u H3 s3 h3 => by
  obtain ⟨a, xs, rfl, hs, ha⟩ := dp_tup (Dp.same s3 h)
  obtain ⟨b, ys, rfl, hs2, ha2⟩ := dp_tup h3
  exact catA_of hs hs2 (by rw [dpAll_length ha, dpAll_length ha2]; exact few) fun p H4 s4 hp => q _ _ ((s2.trans s3).trans s4) (.tup hp (dpAll_app (DpAll.same s4 ha) (DpAll.same s4 ha2)))
theorem dpAll_cut {H : Hp} {xs : List V} {lo hi : Option Int} (h : DpAll K H xs ds) : DpAll K H (cutG xs lo hi) (cutG ds lo hi) := by
  unfold cutG
  rw [dpAll_length h]
  exact dpAll_take (dpAll_drop h)
theorem gv_slTo {i : Int} (g : Gv K σ H te (.tuple ds)) (g2 : Gv K σ H tb (.int i)) : Gv K σ H (tSl (rSlA K) te tNoPart (tPart tb)) (.tuple (cutG ds none (some i))) := fun H1 s Q q => g H1 s _ fun v H2 s2 h => g2 H2 (s.trans s2) _ fun u H3 s3 h3 => by
  cases dp_int h3
  obtain ⟨a, xs, rfl, hs, ha⟩ := dp_tup (Dp.same s3 h)
  exact ⟨i, rfl, slA_of hs fun p H4 s4 hp => q _ _ ((s2.trans s3).trans s4) (.tup hp (dpAll_cut (DpAll.same s4 ha)))⟩
theorem gv_slFrom {i : Int} (g : Gv K σ H te (.tuple ds)) (g2 : Gv K σ H tb (.int i)) : Gv K σ H (tSl (rSlA K) te (tPart tb) tNoPart) (.tuple (cutG ds (some i) none)) := fun H1 s Q q => g H1 s _ fun v H2 s2 h => g2 H2 (s.trans s2) _ fun u H3 s3 h3 => by
  cases dp_int h3
  obtain ⟨a, xs, rfl, hs, ha⟩ := dp_tup (Dp.same s3 h)
  exact ⟨i, rfl, no_part (slA_of hs fun p H4 s4 hp => q _ _ ((s2.trans s3).trans s4) (.tup hp (dpAll_cut (DpAll.same s4 ha))))⟩
theorem gv_take {k : Nat} (g : Gv K σ H te (.tuple ds)) (g2 : Gv K σ H tb (.int (k : Int))) : Gv K σ H (tSl (rSlA K) te tNoPart (tPart tb)) (.tuple (ds.take k)) := by
  have := gv_slTo g g2
  rwa [cutG_take] at this
theorem gv_drop {k : Nat} (g : Gv K σ H te (.tuple ds)) (g2 : Gv K σ H tb (.int (k : Int))) : Gv K σ H (tSl (rSlA K) te (tPart tb) tNoPart) (.tuple (ds.drop k)) := by
  have := gv_slFrom g g2
  rwa [cutG_drop] at this
theorem gv_len (g : Gv K σ H t (.tuple ds)) : Gv K σ H (tCB (rLenS K) (tCons t tNil)) (.int (ds.length : Int)) := fun H1 s Q q => g H1 s _ fun v H2 s2 h => by
  obtain ⟨a, xs, rfl, hs, ha⟩ := dp_tup h
  have := q (.int ((xs.length : Nat) : Int)) H2 s2 (by rw [dpAll_length ha]; exact .int _)
  exact ⟨a, xs, rfl, .inr hs, this⟩
theorem gv_add {i j : Int} (g : Gv K σ H ta (.int i)) (g2 : Gv K σ H tb (.int j)) : Gv K σ H (tOp (rI0 fun i j => V.int (i + j)) ta tb) (.int (i + j)) := fun H1 s Q q => g H1 s _ fun v H2 s2 h => g2 H2 (s.trans s2) _ fun u H3 s3 h3 => by
  cases dp_int h
  cases dp_int h3
  exact ⟨i, j, rfl, rfl, q _ _ (s2.trans s3) (.int _)⟩
theorem gv_sub {i j : Int} (g : Gv K σ H ta (.int i)) (g2 : Gv K σ H tb (.int j)) : Gv K σ H (tOp (rI0 fun i j => V.int (i - j)) ta tb) (.int (i - j)) := fun H1 s Q q => g H1 s _ fun v H2 s2 h => g2 H2 (s.trans s2) _ fun u H3 s3 h3 => by
  cases dp_int h
  cases dp_int h3
  exact ⟨i, j, rfl, rfl, q _ _ (s2.trans s3) (.int _)⟩
/-! ### where they stand -/
theorem asg_gv {i : Nat} {D : Ends} (g : Gv K σ H te d) (q : ∀ v H', Same H H' → Dp K H' v d → D.nx (σ.set i (some v)) H') : tAsg te (gName i) D σ H := g.go q
theorem seq_gv {i : Nat} {D : Ends} {u : TS} (g : Gv K σ H te d) (q : ∀ v H', Same H H' → Dp K H' v d → u D (σ.set i (some v)) H') : tSeq (tAsg te (gName i)) u D σ H := g.go q
theorem lst_gv (g : GvA K σ H tr ds) (few : ds.length ≤ 1000) (q : ∀ p xs H', Same H H' → H' p = some (.lst xs) → DpAll K H' xs ds → Q (.ref p) H') : tLst tr σ H Q := g H (Same.rfl' H) _ fun vs H2 s2 hs => by
  have big : (1000 : Nat) ≤ sizeLine := by decide
  have len := dpAll_length hs
  exact ⟨by omega, fun p hp => q p vs _ (s2.trans (same_upd hp)) upd_same (DpAll.same (same_upd hp) hs)⟩
/-- for x in [..], a row of data -/
theorem for_lit {g : TG} {tb : TS} {D : Ends} (gs : GvA K σ H tr ds) (few : ds.length ≤ 1000) (q : ∀ p xs H1, Same H H1 → H1 p = some (.lst xs) → DpAll K H1 xs ds → ∃ Pv : Nat → L2.St → Hp → Prop, Pv 0 σ H1 ∧ (∀ i σ H, i ≤ xs.length → Pv i σ H → SqL K H p xs) ∧
      (∀ i x σ H, xs[i]? = some x → Pv i σ H → g x σ H fun σ2 H2 => tb { D with nx := Pv (i + 1), ct := Pv (i + 1), bk := D.nx } σ2 H2) ∧ ∀ σ H, Pv xs.length σ H → D.nx σ H) : tFor (iList K (tLst tr)) g tb D σ H := by
  have big : (1000 : Nat) ≤ sizeLine := by decide
  refine gs H (Same.rfl' H) _ fun xs H0 s0 hd0 => ⟨by have := dpAll_length hd0; omega, fun p hnew => ?_⟩
  have s1 := s0.trans (same_upd (o := .lst xs) hnew)
  have hp : (upd H0 p (.lst xs)) p = some (.lst xs) := upd_same
  obtain ⟨Pv, h0, hl, hs, hn⟩ := q p xs _ s1 hp (DpAll.same (same_upd hnew) hd0)
  exact ⟨p, rfl, ⟨xs, .inl (.inl hp)⟩, for_list Pv h0 hl hs hn⟩
end
end Ft

set_option Elab.async false
set_option linter.all false
set_option maxRecDepth 100000
set_option maxHeartbeats 4000000
namespace Ft
open PySem PySem.Spec PyProof.Rows L2
theorem dpAll_rep {K : PySem.W.Frag} {H : Hp} {xs : List V} {ds : List PyData} (h : DpAll K H xs ds) : ∀ k : Nat, DpAll K H (List.replicate k xs).flatten (List.replicate k ds).flatten
  | 0 => .nil
  | k + 1 => by
    rw [List.replicate_succ, List.replicate_succ, List.flatten_cons, List.flatten_cons]
    exact dpAll_app h (dpAll_rep h k)
theorem gv_rep {K : PySem.W.Frag} {σ : L2.St} {H : Hp} {ta tb : TE} {ds : List PyData} {k : Nat} (g : Gv K σ H ta (.tuple ds)) (g2 : Gv K σ H tb (.int (k : Int))) (ne : ds ≠ []) (h1 : 1 ≤ k) (h2 : k ≤ 1000) (few : ds.length ≤ 1000) : Gv K σ H (tOp (rRepA K) ta tb) (.tuple (List.replicate k ds).flatten) := fun H1 s Q q => g H1 s _ fun v H2 s2 h => g2 H2 (s.trans s2) _ fun u H3 s3 h3 => by
  cases dp_int h3
  obtain ⟨a, xs, rfl, hs, ha⟩ := dp_tup (Dp.same s3 h)
  have len := dpAll_length ha
  exact ⟨a, (k : Int), xs, rfl, rfl, hs, (fun e => ne (by rw [e] at len; exact List.length_eq_zero_iff.mp len.symm)), by omega, by omega, by omega, fun p H4 s4 hp => q _ _ ((s2.trans s3).trans s4) (.tup hp (dpAll_rep (DpAll.same s4 ha) _))⟩
end Ft

set_option Elab.async false
set_option linter.all false
set_option maxRecDepth 100000
set_option maxHeartbeats 4000000
/-! str(i), i a small whole number -/
namespace Ft
open PySem PySem.Spec PyProof.Rows L2
def txtI (i : Int) : Str := toString i
def rStrI : List V → Hp → VK → Prop := fun xs H Q => ∃ i, xs = [.int i] ∧ i.natAbs.log2 < 1920 ∧ Q (.str (txtI i)) H
theorem call_strI {X : Cx} : CallR X (.type "str") rStrI := call_str_int
theorem txtI_ok : ∀ n : Fin 128, PyData.strOk (txtI ((n.1 : Nat) : Int)) = true := by decide +kernel
theorem gv_str1 {K : PySem.W.Frag} {σ : L2.St} {H : Hp} {t : TE} {i : Int} (g : Gv K σ H t (.int i)) (few : i.natAbs ≤ 1000) : Gv K σ H (tCB rStrI (tCons t tNil)) (.str (txtI i)) := fun H1 s Q q => g H1 s _ fun v H2 s2 h => by
  cases dp_int h
  refine ⟨i, rfl, ?_, q _ H2 s2 (.str _)⟩
  have h1 := Nat.log2_le_self i.natAbs
  omega
end Ft

set_option Elab.async false
set_option linter.all false
set_option maxRecDepth 100000
set_option maxHeartbeats 8000000
namespace Ft
open PySem PySem.Spec PyProof.Rows L2
/-- data of so many layers, each of at most thirteen -/
structure Sm (k : Nat) (d : PyData) : Prop where
  lay : d.canLay0 = true
  dep : d.depth ≤ k
  nod : nodes d ≤ 14 ^ k
theorem Sm.up {k : Nat} {d : PyData} (h : Sm k d) : Sm (k + 1) d := ⟨h.lay, Nat.le_succ_of_le h.dep, Nat.le_trans h.nod (Nat.pow_le_pow_right (by decide) (Nat.le_succ k))⟩
theorem nodess_le {n : Nat} : ∀ {ds : List PyData}, (∀ e ∈ ds, nodes e ≤ n) → nodess ds ≤ ds.length * n
  | [], _ => by simp only [nodess]; omega
  | d :: ds, h => by
    simp only [nodess, List.length_cons, Nat.succ_mul]
    have h1 := h d List.mem_cons_self
    have h2 := nodess_le fun e he => h e (List.mem_cons_of_mem _ he)
    omega
theorem sm_tup {k : Nat} {ds : List PyData} (h : ∀ e ∈ ds, Sm k e) (few : ds.length ≤ 13) : Sm (k + 1) (.tuple ds) := by
  refine ⟨?_, ?_, ?_⟩
  · simp only [PyData.canLay0]
    exact can_all.mpr fun e he => (h e he).lay
  · simp only [PyData.depth]
    have := depth_all fun e he => (h e he).dep
    omega
  · simp only [nodes]
    have h1 := nodess_le fun e he => (h e he).nod
    have h2 : ds.length * 14 ^ k ≤ 13 * 14 ^ k := Nat.mul_le_mul_right _ few
    have h3 : 1 ≤ 14 ^ k := Nat.one_le_pow _ _ (by decide)
    rw [Nat.pow_succ]
    omega
theorem sm_int (i : Int) : Sm 0 (.int i) := ⟨by simp [PyData.canLay0], by simp [PyData.depth], by simp [nodes]⟩
theorem sm_bl (b : Bool) : Sm 0 (.bool b) := ⟨by simp [PyData.canLay0], by simp [PyData.depth], by simp [nodes]⟩
theorem sm_non : Sm 0 .none := ⟨by simp [PyData.canLay0], by simp [PyData.depth], by simp [nodes]⟩
theorem sm_str {z : Str} (h : PyData.strOk z = true) : Sm 0 (.str z) := ⟨by simpa [PyData.canLay0] using h, by simp [PyData.depth], by simp [nodes]⟩
theorem Sm.fine {d : PyData} (h : Sm 2 d) : Fine d := ⟨shaped_iff.mpr ⟨h.lay, by have := h.dep; omega⟩, by have := h.nod; omega⟩
section
variable {P : Program} {w : World} {K : PySem.W.Frag} {mg : Str → Option Value} {base : Heap} {ca : Str → Addr}
/-! ### _law_bent_way -/
def sp_law_bent_way (K : PySem.W.Frag) : Sp := fun vs H Q _ => ∃ (p l c : Addr) (C : Chart) (v : V) (L : List Nat), vs = [.ref p, .ref c, v] ∧ PoolAt H p l ∧ IsChart K H c C ∧ C.Ok ∧ Dp K H v (lotD L) ∧ 0 < L.length ∧ L.length ≤ 10 ∧ (∀ x ∈ L, x < C.n) ∧
  ∀ (u : V) (d : PyData) (H' : Hp), Dp K H' u d → Sm 1 d → PoolAt H' p l → Kp [p, l] H H' → Q u H'
theorem cal_law_bent_way (T : Txt mg) (D : Def K mg "_law_bent_way" s_law_bent_way) (c_law_draw : Cal P w K mg base 2 "_law_draw" sp_law_draw) : Cal P w K mg base 3 "_law_bent_way" (sp_law_bent_way K) := by
  refine cal_of D sc_law_bent_way (fun _ _ _ _ _ _ us hl => match us, hl with | [_, _, _], _ => rfl) (fun vs H Q E h => ?_) (fun f cdv A outer s H vs Q E hr h => ?_)
  · obtain ⟨p, l, c, C, v, L, rfl, _⟩ := h
    rfl
  · obtain ⟨p, l, c, C, v, L, rfl, hP, hCC, ok, hd, l0, l10, inL, q⟩ := h
    have n60 := ok.n60
    obtain ⟨a, rfl, hT⟩ := lot_dp hd
    refine ⟨_, (pss_cons (ps_par (i := 3) (j := 4) (by rfl) sc_law_bent_way.nd rfl rfl (by decide) rfl rfl (pa_cons (pe_c c_law_draw hr (by decide) (by rfl) (pa_cons (pv 0) (pa_cons (pe_callB (show CallR _ _ (rLenS K) from call_lenS) (by rfl) T.len (by decide +kernel) (pa_cons (pv 2) pa_nil)) pa_nil))) (pa_cons (pe_c c_law_draw hr (by decide) (by rfl) (pa_cons (pv 0) (pa_cons pe_int pa_nil))) pa_nil)) (by rfl))
      (pss_cons (ps_set (i := 5) sc_law_bent_way.nd rfl (Or.inl rfl) (pe_c c_law_draw hr (by decide) (by rfl) (pa_cons (pv 0) (pa_cons (pe_ix (show IxR _ (rIxT K) from ix_tup) (pv 1) pe_int (fun _ _ => rfl)) pa_nil))))
      (pss_cons (ps_set (i := 6) sc_law_bent_way.nd rfl (Or.inl rfl) (pe_ix (show IxR _ (rIxL K) from ix_list) (pe_lst (pa_cons (pe_tup (pa_cons (pe_op op_add (pe_ix (show IxR _ (rIxT K) from ix_tup) (pv 2) (pv 3) (fun _ _ => rfl)) pe_int) pa_nil)) (pa_cons (pe_tup pa_nil) (pa_cons (pe_tup (pa_cons (pe_ix (show IxR _ (rIxT K) from ix_tup) (pv 2) (pv 3) (fun _ _ => rfl)) (pa_cons (pv 5) pa_nil))) (pa_cons (pe_tup (pa_cons (pv 5) pa_nil)) (pa_cons (pe_tup (pa_cons pe_bl pa_nil)) (pa_cons (pe_tup (pa_cons (pe_callTy (show CallR _ _ rStrI from call_strI) (by rfl) T.str (by decide +kernel) (pa_cons (pe_ix (show IxR _ (rIxT K) from ix_tup) (pv 2) (pv 3) (fun _ _ => rfl)) pa_nil)) pa_nil)) pa_nil))))))) (pv 4) (fun _ _ => rfl)))
      (pss_one (ps_ret (pe_op (show OpR _ _ (rCatA K) from op_catA) (pe_op (show OpR _ _ (rCatA K) from op_catA) (pe_slice (show SlR _ (rSlA K) from sl_tupA) (pv 2) po_none (po_some (pv 3))) (pv 6)) (pe_slice (show SlR _ (rSlA K) from sl_tupA) (pv 2) (po_some (pe_op op_add (pv 3) pe_int)) po_none))))))), ?_⟩
    refine ⟨_, rfl, _, rfl, _, _, rfl, .inr hT, p, l, L.length, by rw [List.length_map]; rfl, hP, l0, by omega, fun at_ H1 hat hP1 k1 => ?_⟩
    refine ⟨_, rfl, p, l, 6, rfl, hP1, by decide, by decide, fun kind H2 hkind hP2 k2 => ?_⟩
    have k02 := k1.trans k2
    obtain ⟨r, wd, ts, hC2⟩ := hCC.keep k02 hP.lists
    have n0 : 0 < C.n := Nat.lt_of_le_of_lt (Nat.zero_le _) (inL (L.getD 0 0) (List.mem_of_getElem? (getD_at l0)))
    refine ⟨_, _, rfl, _, rfl, _, rfl, _, _, _, _, rfl, rfl, hC2.top, rfl, p, l, C.n, rfl, hP2, n0, by omega, fun other H3 hother hP3 k3 => ?_⟩
    have k03 := k02.trans k3
    have hT3 := k03.sqT hP.lists hT
    have hd3 : Dp K H3 (.ref a) (lotD L) := dp_lot hT3
    have he : (L.map nD)[at_]? = some (nD (L.getD at_ 0)) := by rw [List.getElem?_map, getD_at hat]; rfl
    have gW : ∀ {σ : L2.St}, σ[2]? = some (some (.ref a)) → Gv K σ H3 (tVar 2) (lotD L) := fun e => gv_var e hd3
    have gA : ∀ {σ : L2.St}, σ[3]? = some (some (vN at_)) → Gv K σ H3 (tVar 3) (.int (at_ : Int)) := fun e => gv_var e (dp_nat at_)
    have gO : ∀ {σ : L2.St}, σ[5]? = some (some (vN other)) → Gv K σ H3 (tVar 5) (nD other) := fun e => gv_var e (dp_nat other)
    dsimp only
    refine at_seq ?_
    unfold tAsg
    refine lst_gv (K := K) (ds := [.tuple [.int ((L.getD at_ 0 : Nat) + 1)], .tuple [], .tuple [nD (L.getD at_ 0), nD other], .tuple [nD other], .tuple [.bool true], .tuple [.str (txtI (L.getD at_ 0 : Nat))]])
      (gva_cons (gv_tup (gva_cons (gv_add (gv_ixT (j := at_) (gW rfl) (gA rfl) he) gv_int) gva_nil) (by simp)) (gva_cons (gv_tup gva_nil (by simp)) (gva_cons (gv_tup (gva_cons (gv_ixT (j := at_) (gW rfl) (gA rfl) he) (gva_cons (gO rfl) gva_nil)) (by simp)) (gva_cons (gv_tup (gva_cons (gO rfl) gva_nil) (by simp)) (gva_cons (gv_tup (gva_cons gv_bl gva_nil) (by simp)) (gva_cons (gv_tup (gva_cons (gv_str1 (gv_ixT (j := at_) (gW rfl) (gA rfl) he) (by have := inL _ (List.mem_of_getElem? (getD_at hat)); omega)) gva_nil) (by simp)) gva_nil)))))) (by simp) fun g ys H4 s4 hG4 hd4 => ?_
    have ly := dpAll_length hd4
    obtain ⟨dk, hdk⟩ : ∃ dk, ([.tuple [.int ((L.getD at_ 0 : Nat) + 1)], .tuple [], .tuple [nD (L.getD at_ 0), nD other], .tuple [nD other], .tuple [.bool true], .tuple [.str (txtI (L.getD at_ 0 : Nat))]] : List PyData)[kind]? = some dk := ⟨_, List.getElem?_eq_getElem (by simpa using hkind)⟩
    obtain ⟨vk, hvk, pk⟩ := dpAll_getD hd4 hdk
    have lx : L.getD at_ 0 < 60 := by have := inL _ (List.mem_of_getElem? (getD_at hat)); omega
    obtain ⟨es, rfl, few, all⟩ : ∃ es, dk = .tuple es ∧ es.length ≤ 2 ∧ ∀ e ∈ es, Sm 0 e := by
      have m := List.mem_of_getElem? hdk
      simp only [List.mem_cons, List.not_mem_nil, or_false] at m
      rcases m with rfl | rfl | rfl | rfl | rfl | rfl
      · exact ⟨_, rfl, by simp, fun e he => by rw [List.mem_singleton.mp he]; exact sm_int _⟩
      · exact ⟨_, rfl, by simp, fun e he => nomatch he⟩
      · exact ⟨_, rfl, by simp, fun e he => by
          simp only [List.mem_cons, List.not_mem_nil, or_false] at he
          rcases he with rfl | rfl <;> exact sm_int _⟩
      · exact ⟨_, rfl, by simp, fun e he => by rw [List.mem_singleton.mp he]; exact sm_int _⟩
      · exact ⟨_, rfl, by simp, fun e he => by rw [List.mem_singleton.mp he]; exact sm_bl _⟩
      · exact ⟨_, rfl, by simp, fun e he => by rw [List.mem_singleton.mp he]; exact sm_str (txtI_ok ⟨L.getD at_ 0, by omega⟩)⟩
    refine ⟨_, rfl, g, ys, (kind : Int), vk, rfl, rfl, .inl (.inl hG4), atI_nat hvk, ?_⟩
    have hd5 := Dp.same s4 hd3
    have hP4 := hP3.same s4
    have gW4 : ∀ {σ : L2.St}, σ[2]? = some (some (.ref a)) → Gv K σ H4 (tVar 2) (lotD L) := fun e => gv_var e hd5
    have gA4 : ∀ {σ : L2.St}, σ[3]? = some (some (vN at_)) → Gv K σ H4 (tVar 3) (.int (at_ : Int)) := fun e => gv_var e (dp_nat at_)
    refine (gv_cat (gv_cat (gv_take (k := at_) (gW4 rfl) (gA4 rfl)) (gv_var (i := 6) rfl pk) (by rw [List.length_take, List.length_map]; omega)) (gv_drop (k := at_ + 1) (gW4 rfl) (gv_add (gA4 rfl) gv_int)) (by rw [List.length_append, List.length_take, List.length_drop, List.length_map]; omega)).go fun u H5 s5 hu => ?_
    refine q u _ H5 hu (sm_tup (k := 0) (fun e he => ?_) (by rw [List.length_append, List.length_append, List.length_take, List.length_drop, List.length_map]; omega)) (hP4.same s5) (k03.trans (Same.kp (s4.trans s5)))
    have nat : ∀ e ∈ L.map nD, Sm 0 e := fun e he => by
      obtain ⟨x, _, rfl⟩ := List.mem_map.mp he
      exact sm_int _
    rcases List.mem_append.mp he with he | he
    · rcases List.mem_append.mp he with he | he
      · exact nat e (List.mem_of_mem_take he)
      · exact all e he
    · exact nat e (List.mem_of_mem_drop he)
/-! ### _law_strolled -/
def sp_law_strolled (K : PySem.W.Frag) : Sp := fun vs H Q _ => ∃ (p l c lo : Addr) (C : Chart) (S : List Nat), vs = [.ref p, .ref c, .ref lo] ∧ PoolAt H p l ∧ IsChart K H c C ∧ C.Ok ∧ SqT K H lo (S.map vN) ∧ 0 < S.length ∧ S.length ≤ 60 ∧ (∀ x ∈ S, x < C.n) ∧
  ∀ (t : Addr) (L : List Nat) (H' : Hp), SqT K H' t (L.map vN) → 0 < L.length → L.length ≤ 10 → (∀ x ∈ L, x < C.n) → PoolAt H' p l → Kp [p, l] H H' → Q (.ref t) H'
theorem cal_law_strolled (T : Txt mg) (D : Def K mg "_law_strolled" s_law_strolled) (c_law_pick : Cal P w K mg base 3 "_law_pick" (sp_law_pick K)) : Cal P w K mg base 4 "_law_strolled" (sp_law_strolled K) := by
  refine cal_of D sc_law_strolled (fun _ _ _ _ _ _ us hl => match us, hl with | [_, _, _], _ => rfl) (fun vs H Q E h => ?_) (fun f cdv A outer s H vs Q E hr h => ?_)
  · obtain ⟨p, l, c, lo, C, S, rfl, _⟩ := h
    rfl
  · obtain ⟨p, l, c, lo, C, S, rfl, hP, hCC, ok, hS, s0, s60, inS, q⟩ := h
    have hU := hr.units
    have n60 := ok.n60
    refine ⟨_, (pss_cons (ps_set (i := 3) sc_law_strolled.nd rfl (Or.inr rfl) (pe_lst (pa_cons (pe_c c_law_pick hr (by decide) (by rfl) (pa_cons (pv 0) (pa_cons (pv 2) pa_nil))) pa_nil)))
      (pss_cons (ps_for PassesOwn.never rfl (pi_range1 (by rfl) T.range (pa_cons pe_int pa_nil)) (pg_name (i := 4) sc_law_strolled.nd rfl (Or.inl rfl)) (pss_cons (ps_setLc (i := 5) (own := [("a", 6), ("b", 7)]) rfl sc_law_strolled.nd rfl rfl (sw_true rfl rfl rfl (by decide +kernel)) (show PI _ _ _ (iTup K _) from pi_tup (pe_ix (show IxR _ (rIxT K) from ix_tup) (pv 1) pe_int (fun _ _ => rfl))) (blkOk_by (N := ["pool", "chart", "lot", "walk", "turn", "ahead", "a", "b"]) (sc := L2.defScope s_law_strolled) (by decide +kernel)) (fun _ _ _ _ _ => (show PG _ _ (gTup K 2 _) from pg_tup (by rfl) (pgs_cons (pg_name (i := 6) sc_law_strolled.nd rfl (Or.inl rfl)) (pgs_cons (pg_name (i := 7) sc_law_strolled.nd rfl (Or.inl rfl)) pgs_nil)))) (fun _ _ _ _ _ => pts_one (pt_cmpR op_eq (pv 6) (pe_ix (show IxR _ (rIxL K) from ix_list) (pv 3) (pe_un un_neg pe_int) (fun _ _ => rfl)) (nomark _))) (fun _ _ _ _ _ => (pv 7)))
        (pss_cons (ps_if (pt_cmpR (show OpR _ _ (rEqD K) from op_eqD hU) (pv 5) (pe_lst pa_nil) (nomark _)) (pss_one ps_break) pss_nil)
        (pss_cons (ps_expr (pe_bm PySem.F.plainAttrs_list PySem.F.slot_list_append PySem.F.type_list_append mt_append (pv 3) (pa_cons (pe_c c_law_pick hr (by decide) (by rfl) (pa_cons (pv 0) (pa_cons (pv 5) pa_nil))) pa_nil)))
        (pss_one (ps_if (pt_cmpR (show OpR _ _ (rIn K false) from op_in_seq) (pe_ix (show IxR _ (rIxL K) from ix_list) (pv 3) (pe_un un_neg pe_int) (fun _ _ => rfl)) (pe_ix (show IxR _ (rIxT K) from ix_tup) (pv 1) pe_int (fun _ _ => rfl)) (by rfl)) (pss_one ps_break) pss_nil))))))
      (pss_one (ps_ret (pe_callTy (show CallR _ _ (rTupleOf K) from call_tupleOf) (by rfl) T.tuple (by decide +kernel) (pa_cons (pv 3) pa_nil)))))), ?_⟩
    refine ⟨_, rfl, _, rfl, p, l, lo, S.map vN, rfl, hP, .inr hS, by rw [List.length_map]; exact s0, by rw [List.length_map]; omega, fun v H1 hv hP1 k1 => ?_⟩
    obtain ⟨x0, hx0, rfl⟩ := List.mem_map.mp hv
    refine ⟨by show 1 ≤ sizeLine; decide, fun d hd => ?_⟩
    have dpl : d ∉ [p, l] := hP1.free hd
    have s2 : Same H1 (upd H1 d (.lst [vN x0])) := same_upd hd
    have hD2 : (upd H1 d (.lst [vN x0])) d = some (.lst ([x0].map vN)) := upd_same
    have hP2 := hP1.same s2
    have k2 : Kp [p, l] H (upd H1 d (.lst [vN x0])) := k1.trans (Same.kp s2)
    generalize upd H1 d (.lst [vN x0]) = H2 at s2 hD2 hP2 k2
    have hd0 : H d = none := kp_free k1 dpl hd
    have fin : ∀ (L : List Nat) (H' : Hp), H' d = some (.lst (L.map vN)) → 0 < L.length → L.length ≤ 10 → (∀ x ∈ L, x < C.n) → PoolAt H' p l → Kp [p, l] H H' → rTupleOf K [V.ref d] H' Q := fun L H' hD l0 l10 inL hP' k => by
      refine ⟨d, _, rfl, .inl ⟨.inl (.inl hD), fun tp htp => ?_⟩⟩
      exact q tp L _ (.inl (.inl upd_same)) l0 l10 inL (hP'.same (same_upd htp)) (k.trans (Same.kp (same_upd htp)))
    refine ⟨_, rfl, by decide, by decide, for_range (lo := 0) (n := (9 : Int).toNat) (fun i σ H' => ∃ (L : List Nat) (v4 v5 v6 v7 : Option V), σ = [some (.ref p), some (.ref c), some (.ref lo), some (.ref d), v4, v5, v6, v7] ∧ PoolAt H' p l ∧ Kp [p, l] H H' ∧ H' d = some (.lst (L.map vN)) ∧ L.length = i + 1 ∧ ∀ x ∈ L, x < C.n)
      ⟨[x0], _, _, _, _, rfl, hP2, k2, hD2, rfl, fun x hx => by rw [List.mem_singleton.mp hx]; exact inS x0 hx0⟩ ?_ ?_⟩
    · rintro i σ H3 hi ⟨L, v4, v5, v6, v7, rfl, hP3, k3, hD3, lL, inL⟩
      have i9 : i < 9 := hi
      obtain ⟨r, wd, ts, hC3⟩ := hCC.keep k3 hP.lists
      refine ⟨_, rfl, _, _, _, _, rfl, rfl, hC3.top, rfl, r, rfl, ⟨_, hC3.row⟩, fun g hg => ?_⟩
      have keep : ∀ {H' : Hp}, Kp [g] H3 H' → Same H3 H' := fun {H'} k b o e' => k b o (fun m => by rw [List.mem_singleton.mp m, hg] at e'; cases e') e'
      have gpl : g ∉ [p, l] := hP3.free hg
      have lastL : ∀ {H' : Hp}, Same H3 H' → atI (L.map vN) (-1) = some (vN (L.getD (L.length - 1) 0)) := fun {H'} _ => atI_end (by rw [List.length_map, List.getElem?_map, getD_at (by omega)]; rfl)
      refine lc_tup (K := K) (a := r) (xs := ts.map V.ref) (fun j H' => ∃ A : List Nat, Kp [g] H3 H' ∧ H' g = some (.lst (A.map vN)) ∧ A.length ≤ j ∧ ∀ x ∈ A, x < C.n)
        ⟨[], (fun b o x e' => by rw [upd_ne (ne_of_none e' hg)]; exact e'), upd_same, Nat.le_refl _, fun _ h => nomatch h⟩ (fun j H' _ ⟨_, k, _⟩ => Same.sqT (keep k) hC3.row) ?_ ?_
      · rintro j x H4 hx ⟨A, k4, hG4, lA, inA⟩
        obtain ⟨t, ht, rfl⟩ := get_map hx
        obtain ⟨q0, hq0, pt⟩ := paired_getL hC3.prs ht
        have jl : j < C.roads.length := (List.getElem?_eq_some_iff.mp hq0).1
        have many := ok.many
        have hD4 := keep k4 _ _ hD3
        refine ⟨t, _, rfl, Same.sqT (keep k4) pt, rfl, _, _, rfl, _, _, rfl, rfl, rfl, ?_⟩
        refine ⟨_, rfl, _, rfl, 1, rfl, d, _, _, _, rfl, rfl, .inl (.inl hD4), lastL (keep k4), rfl, _, rfl, ite_any (fun _ => ?_) (fun _ => ?_)⟩
        · refine ⟨_, rfl, _, hG4, by rw [List.length_map]; exact small1000 (by omega), A ++ [q0.2], ?_, by rw [upd_same, List.map_append]; rfl, by rw [List.length_append]; exact Nat.succ_le_succ lA, fun y hy => ?_⟩
          · intro b o nb eb
            rw [upd_ne (fun z => nb (by rw [z]; simp))]
            exact k4 b o nb eb
          · rcases List.mem_append.mp hy with hy | hy
            · exact inA y hy
            · rw [List.mem_singleton.mp hy]
              exact (ok.inR q0 (List.mem_of_getElem? hq0)).2
        · exact ⟨A, k4, hG4, by omega, inA⟩
      · rintro H4 ⟨A, k4, hG4, lA, inA⟩
        have s4 := keep k4
        have many := ok.many
        rw [List.length_map] at lA
        have lts : ts.length = C.roads.length := Paired.length hC3.prs
        have hD4 := s4 _ _ hD3
        refine ⟨_, rfl, Nat.zero_le _, fun g2 hg2 => ?_⟩
        have s5 : Same H4 (upd H4 g2 (.lst [])) := same_upd hg2
        have hE5 : (upd H4 g2 (.lst [])) g2 = some (.lst []) := upd_same
        generalize upd H4 g2 (.lst []) = H5 at s5 hE5
        have hG5 := s5 _ _ hG4
        have hD5 := s5 _ _ hD4
        have hP5 := hP3.same (s4.trans s5)
        have k5 : Kp [p, l] H H5 := k3.trans (Same.kp (s4.trans s5))
        refine ⟨.list (A.map nD), .list [], .lst (.inl (.inl hG5)) (dp_nats A), .lst (.inl (.inl hE5)) .nil, by have z := ints_shaped (iN A); unfold iN at z; rw [List.map_map] at z; exact z, rfl, _, rfl, ?_⟩
        rw [eqv_nil]
        cases A with
        | nil => exact iteT ⟨_, rfl, fin L H5 hD5 (by omega) (by omega) inL hP5 k5⟩
        | cons y A =>
          refine iteF ?_
          refine ⟨_, rfl, .inl ⟨rfl, _, .inl (.inl hD5)⟩, _, rfl, _, rfl, p, l, g, (y :: A).map vN, rfl, hP5, .inl ⟨.inl (.inl hG5), gpl⟩, by rw [List.length_map, List.length_cons]; omega, by rw [List.length_map]; omega, fun v H6 hv hP6 k6 => ?_⟩
          obtain ⟨z, hz, rfl⟩ := List.mem_map.mp hv
          have hD6 := k6 _ _ dpl hD5
          have k06 : Kp [p, l] H H6 := k5.trans k6
          refine ⟨d, _, _, rfl, rfl, hD6, by rw [List.length_map]; exact small1000 (by omega), ?_⟩
          have k7 : Kp [p, l] H (upd H6 d (.lst (L.map vN ++ [vN z]))) := fun b o nb eb => by
            rw [upd_ne (ne_of_none eb hd0)]
            exact k06 b o nb eb
          have hP7 : PoolAt (upd H6 d (.lst (L.map vN ++ [vN z]))) p l := hP6.set dpl
          have hD7 : (upd H6 d (.lst (L.map vN ++ [vN z]))) d = some (.lst ((L ++ [z]).map vN)) := by rw [upd_same, List.map_append]; rfl
          generalize upd H6 d (.lst (L.map vN ++ [vN z])) = H7 at k7 hP7 hD7
          obtain ⟨r7, wd7, ts7, hC7⟩ := hCC.keep k7 hP.lists
          have inL7 : ∀ x ∈ L ++ [z], x < C.n := fun x hx => by
            rcases List.mem_append.mp hx with hx | hx
            · exact inL x hx
            · rw [List.mem_singleton.mp hx]
              exact inA z hz
          have lL7 : (L ++ [z]).length = i + 1 + 1 := by rw [List.length_append, lL]; rfl
          have last7 : atI ((L ++ [z]).map vN) (-1) = some (vN z) := atI_end (by rw [List.length_map, List.getElem?_map, List.length_append, List.length_singleton, Nat.add_sub_cancel, List.getElem?_append_right (Nat.le_refl _), Nat.sub_self]; rfl)
          refine ⟨_, rfl, 1, rfl, d, _, _, _, rfl, rfl, .inl (.inl hD7), last7, _, rfl, _, _, _, _, rfl, rfl, hC7.top, rfl, wd7, _, rfl, .inr hC7.wis, rfl, all_vN C.wished, _, rfl, ite_any (fun _ => ?_) (fun _ => ?_)⟩
          · exact ⟨_, rfl, fin (L ++ [z]) H7 hD7 (by omega) (by omega) inL7 hP7 k7⟩
          · exact ⟨L ++ [z], _, _, _, _, rfl, hP7, k7, hD7, lL7, inL7⟩
    · rintro σ H3 ⟨L, v4, v5, v6, v7, rfl, hP3, k3, hD3, lL, inL⟩
      exact ⟨_, rfl, fin L H3 hD3 (by omega) (by have : L.length = 9 + 1 := lL; omega) inL hP3 k3⟩
end
end Ft

set_option Elab.async false
set_option linter.all false
set_option maxRecDepth 100000
set_option maxHeartbeats 8000000
namespace Ft
open PySem PySem.Spec PyProof.Rows L2
theorem lst_gvN {K : PySem.W.Frag} {σ : L2.St} {H : Hp} {tr : TA} {ds : List PyData} {Q : VK} (g : GvA K σ H tr ds) (few : ds.length ≤ 1000) (q : ∀ p xs H', H p = none → Same H H' → H' p = some (.lst xs) → DpAll K H' xs ds → Q (.ref p) H') : tLst tr σ H Q := g H (Same.rfl' H) _ fun vs H2 s2 hs => by
  have len := dpAll_length hs
  refine ⟨by rw [sizeLine_eq]; omega, fun p hp => q p vs _ ?_ (s2.trans (same_upd hp)) upd_same (DpAll.same (same_upd hp) hs)⟩
  cases e : H p with
  | none => rfl
  | some o => rw [s2 _ _ e] at hp; cases hp
theorem noList_lot (L : List Nat) : noList (lotD L) = true := by
  show noLists (L.map nD) = true
  induction L with
  | nil => rfl
  | cons a L ih => exact ih
theorem noLists_ways : ∀ {ds : List PyData}, (∀ d ∈ ds, ∃ L : List Nat, d = lotD L) → noLists ds = true
  | [], _ => rfl
  | d :: ds, h => by
    obtain ⟨L, rfl⟩ := h d List.mem_cons_self
    show (noList (lotD L) && noLists ds) = true
    rw [noList_lot, noLists_ways fun d m => h d (List.mem_cons_of_mem _ m)]
    rfl
theorem eqv_nilT {es : List PyData} : PyData.eqv (.tuple es) (.tuple []) = es.isEmpty := by
  cases es with
  | nil => rfl
  | cons e es => rfl
theorem fine_one {d : PyData} (h : Sm 2 d) : Fine (.tuple [d]) := by
  refine ⟨shaped_iff.mpr ⟨?_, ?_⟩, ?_⟩
  · simp only [PyData.canLay0]
    exact can_all.mpr fun e he => by rw [List.mem_singleton.mp he]; exact h.lay
  · simp only [PyData.depth]
    have : PyData.depthAll [d] ≤ 2 := depth_all fun e he => by rw [List.mem_singleton.mp he]; exact h.dep
    omega
  · have := h.nod
    simp only [nodes, nodess]
    omega
theorem cutG_mem {α : Type} {xs : List α} {lo hi : Option Int} {x : α} (h : x ∈ cutG xs lo hi) : x ∈ xs := by
  unfold cutG at h
  exact List.mem_of_mem_drop (List.mem_of_mem_take h)
theorem cutG_few {α : Type} {xs : List α} {lo hi : Option Int} : (cutG xs lo hi).length ≤ xs.length := by
  unfold cutG
  rw [List.length_take, List.length_drop]
  omega
theorem sm_lot {L : List Nat} (h : L.length ≤ 13) : Sm 1 (lotD L) := sm_tup (k := 0) (fun e he => by
  obtain ⟨x, _, rfl⟩ := List.mem_map.mp he
  exact sm_int _) (by rw [List.length_map]; exact h)
section
variable {P : Program} {w : World} {K : PySem.W.Frag} {mg : Str → Option Value} {base : Heap} {ca : Str → Addr}
/-! ### _law_all_told -/
def sp_law_all_told (K : PySem.W.Frag) : Sp := fun vs H Q _ => ∃ (p l c lo fr : Addr) (C : Chart) (S F : List Nat) (v : V) (ds : List PyData), vs = [.ref p, .ref c, .ref lo, .ref fr, v] ∧ PoolAt H p l ∧ IsChart K H c C ∧ C.Ok ∧ C.roads.length < 64 ∧ SqT K H lo (S.map vN) ∧ lotOk C.n (lotD S) = true ∧ SqT K H fr (F.map vN) ∧ freeD C (lotD F) = true ∧ Dp K H v (.tuple ds) ∧ ds.length ≤ 12 ∧ (∀ d ∈ ds, ∃ L : List Nat, d = lotD L ∧ 0 < L.length ∧ L.length ≤ 10 ∧ ∀ x ∈ L, x < C.n) ∧
  ∀ H', PoolAt H' p l → Kp [p, l] H H' → Q (.bl true) H'
theorem cal_law_all_told (T : Txt mg) (D : Def K mg "_law_all_told" s_law_all_told) (c_law_draw : Cal P w K mg base 2 "_law_draw" sp_law_draw) (c_law_bent_way : Cal P w K mg base 3 "_law_bent_way" (sp_law_bent_way K)) (c_law_told : CalG P w K mg base 8 "_law_told" (sp_law_told K)) : CalG P w K mg base 9 "_law_all_told" (sp_law_all_told K) := by
  refine calG_of D sc_law_all_told (fun _ _ _ _ _ _ us hl => match us, hl with | [_, _, _, _, _], _ => rfl) (fun vs H Q E h => ?_) (fun f cdv A outer s H vs Q E hg hr h => ?_)
  · obtain ⟨p, l, c, lo, fr, C, S, F, v, ds, rfl, _⟩ := h
    rfl
  · obtain ⟨p, l, c, lo, fr, C, S, F, v, ds, rfl, hP, hCC, ok, few, hS, okS, hF, okF, hd, l12, allW, q⟩ := h
    have hU := hr.units
    have hG := hg
    have n60 := ok.n60
    have smW : ∀ d ∈ ds, Sm 1 d := fun d m => by
      obtain ⟨L, rfl, _, h10, _⟩ := allW d m
      exact sm_lot (by omega)
    refine ⟨_, (pss_cons (ps_set (i := 5) sc_law_all_told.nd rfl (Or.inl rfl) (pe_lst (pa_cons (pv 4) (pa_cons (pe_tup pa_nil) (pa_cons pe_non (pa_cons pe_str (pa_cons pe_int (pa_cons (pe_tup (pa_cons pe_non pa_nil)) (pa_cons (pe_tup (pa_cons (pe_tup pa_nil) pa_nil)) (pa_cons (pe_tup (pa_cons (pv 4) pa_nil)) pa_nil))))))))))
      (pss_cons (ps_if (pt_cmpR (show OpR _ _ (rNeD K) from op_neD hU) (pv 4) (pe_tup pa_nil) (nomark _)) (pss_cons (ps_set (i := 6) sc_law_all_told.nd rfl (Or.inl rfl) (pe_c c_law_draw hr (by decide) (by rfl) (pa_cons (pv 0) (pa_cons (pe_callB (show CallR _ _ (rLenS K) from call_lenS) (by rfl) T.len (by decide +kernel) (pa_cons (pv 4) pa_nil)) pa_nil))))
        (pss_cons (ps_set (i := 7) sc_law_all_told.nd rfl (Or.inl rfl) (pe_c c_law_bent_way hr (by decide) (by rfl) (pa_cons (pv 0) (pa_cons (pv 1) (pa_cons (pe_ix (show IxR _ (rIxT K) from ix_tup) (pv 4) (pv 6) (fun _ _ => rfl)) pa_nil)))))
        (pss_cons (ps_set (i := 5) sc_law_all_told.nd rfl (Or.inl rfl) (pe_op op_cat (pv 5) (pe_lst (pa_cons (pe_op (show OpR _ _ (rCatA K) from op_catA) (pv 4) (pe_tup (pa_cons (pe_ix (show IxR _ (rIxT K) from ix_tup) (pv 4) (pv 6) (fun _ _ => rfl)) pa_nil))) (pa_cons (pe_slice (show SlR _ (rSlA K) from sl_tupA) (pv 4) (po_some pe_int) po_none) (pa_cons (pe_ix (show IxR _ (rIxT K) from ix_tup) (pv 4) (pv 6) (fun _ _ => rfl)) (pa_cons (pe_op (show OpR _ _ (rCatA K) from op_catA) (pe_op (show OpR _ _ (rCatA K) from op_catA) (pe_slice (show SlR _ (rSlA K) from sl_tupA) (pv 4) po_none (po_some (pv 6))) (pe_tup (pa_cons (pv 7) pa_nil))) (pe_slice (show SlR _ (rSlA K) from sl_tupA) (pv 4) (po_some (pe_op op_add (pv 6) pe_int)) po_none)) (pa_cons (pe_tup (pa_cons (pv 7) pa_nil)) pa_nil))))))))
        (pss_one (ps_set (i := 5) sc_law_all_told.nd rfl (Or.inl rfl) (pe_op op_cat (pv 5) (pe_lst (pa_cons (pe_op (show OpR _ _ (rCatA K) from op_catA) (pe_op (show OpR _ _ (rCatA K) from op_catA) (pe_slice (show SlR _ (rSlA K) from sl_tupA) (pv 4) po_none (po_some (pv 6))) (pe_tup (pa_cons (pe_slice (show SlR _ (rSlA K) from sl_tupA) (pe_ix (show IxR _ (rIxT K) from ix_tup) (pv 4) (pv 6) (fun _ _ => rfl)) po_none (po_some (pe_un un_neg pe_int))) pa_nil))) (pe_slice (show SlR _ (rSlA K) from sl_tupA) (pv 4) (po_some (pe_op op_add (pv 6) pe_int)) po_none)) (pa_cons (pe_tup (pa_cons (pe_slice (show SlR _ (rSlA K) from sl_tupA) (pe_ix (show IxR _ (rIxT K) from ix_tup) (pv 4) (pv 6) (fun _ _ => rfl)) (po_some (pe_un un_neg pe_int)) po_none) pa_nil)) (pa_cons (pe_tup (pa_cons (pe_ix (show IxR _ (rIxT K) from ix_tup) (pe_ix (show IxR _ (rIxT K) from ix_tup) (pv 4) (pv 6) (fun _ _ => rfl)) pe_int (fun _ _ => rfl)) pa_nil)) pa_nil)))))))))) pss_nil)
      (pss_one (ps_ret (pe_cmpR (show OpR _ _ (rEqD K) from op_eqD hU) (pe_lc (own := [("thing", 8)]) rfl sc_law_all_told.nd (show PI _ _ _ (iList K _) from pi_list (pv 5)) (blkOk_by (N := ["pool", "chart", "lot", "free", "ways", "things", "at", "bent", "thing"]) (sc := L2.defScope s_law_all_told) (by decide +kernel)) (fun _ _ _ _ _ => (pg_name (i := 8) sc_law_all_told.nd rfl (Or.inl rfl))) (fun _ _ _ _ _ => pts_one (pt_not (pt_val (pe_g c_law_told hG hr (by decide) (by rfl) (pa_cons (pv 1) (pa_cons (pv 2) (pa_cons (pv 3) (pa_cons (pv 8) pa_nil)))))))) (fun _ _ _ _ _ => (pv 8))) (pe_lst pa_nil) (nomark _)))))), ?_⟩
    refine at_seq ?_
    unfold tAsg
    refine lst_gvN (K := K) (gva_cons (gv_var rfl hd) (gva_cons (gv_tup gva_nil (by simp)) (gva_cons gv_non (gva_cons gv_str (gva_cons gv_int (gva_cons (gv_tup (gva_cons gv_non gva_nil) (by simp)) (gva_cons (gv_tup (gva_cons (gv_tup gva_nil (by simp)) gva_nil) (by simp)) (gva_cons (gv_tup (gva_cons (gv_var rfl hd) gva_nil) (by simp)) gva_nil)))))))) (by simp) fun t1 xs1 H1 ht1 s1 hT1 hd1 => ?_
    obtain ⟨es1, ees1⟩ : ∃ es1 : List PyData, [.tuple ds, .tuple [], .none, .str "ways", .int 0, .tuple [.none], .tuple [.tuple []], .tuple [.tuple ds]] = es1 := ⟨_, rfl⟩
    have fine1 : ∀ e ∈ es1, Fine e := fun e he => by
      rw [← ees1] at he
      simp only [List.mem_cons, List.not_mem_nil, or_false] at he
      rcases he with rfl | rfl | rfl | rfl | rfl | rfl | rfl | rfl
      · exact (sm_tup (k := 1) smW (by omega)).fine
      · exact (sm_tup (k := 1) (fun _ h => by cases h) (by simp)).fine
      · exact sm_non.up.up.fine
      · exact (sm_str (by decide +kernel)).up.up.fine
      · exact (sm_int 0).up.up.fine
      · exact (sm_tup (k := 1) (fun e he => by rw [List.mem_singleton.mp he]; exact sm_non.up) (by simp)).fine
      · exact (sm_tup (k := 1) (fun e he => by rw [List.mem_singleton.mp he]; exact sm_tup (k := 0) (fun _ h => by cases h) (by simp)) (by simp)).fine
      · exact fine_one (sm_tup (k := 1) smW (by omega))
    have len1 : es1.length = 8 := by rw [← ees1]; rfl
    rw [ees1] at hd1
    have hP1 := hP.same s1
    have t1pl : t1 ∉ [p, l] := hP.free ht1
    have hd_1 := Dp.same s1 hd
    refine ⟨_, rfl, Nat.zero_le _, fun e0 he0 => ?_⟩
    have s2 : Same H1 (upd H1 e0 (.tup [])) := same_upd he0
    have hE2 : (upd H1 e0 (.tup [])) e0 = some (.tup []) := upd_same
    generalize upd H1 e0 (.tup []) = H2 at s2 hE2
    have hd2 := Dp.same s2 hd_1
    have hP2 := hP1.same s2
    have k2 : Kp [p, l] H H2 := Same.kp (s1.trans s2)
    have hT2 := s2 _ _ hT1
    have hd12 := DpAll.same s2 hd1
    refine ⟨.tuple ds, .tuple [], hd2, .tup (.inl (.inl hE2)) .nil, (sm_tup (k := 1) smW (by omega)).fine.sh, rfl, _, rfl, ?_⟩
    rw [eqv_nilT]
    cases ds with
    | nil =>
      refine iteF ?_
      obtain ⟨hC9, hS9, hF9⟩ : IsChart K H2 c C ∧ SqT K H2 lo (S.map vN) ∧ SqT K H2 fr (F.map vN) := ⟨hCC.keep k2 hP.lists, (k2).sqT hP.lists hS, (k2).sqT hP.lists hF⟩
      refine ⟨_, rfl, t1, rfl, ⟨_, .inl (.inl hT2)⟩, fun g hg => ?_⟩
      have keep : ∀ {H' : Hp}, Kp [g] H2 H' → Same H2 H' := fun {H'} k b o e' => k b o (fun m => by rw [List.mem_singleton.mp m, hg] at e'; cases e') e'
      refine lc_list (K := K) (xs := xs1) (fun j H' => Kp [g] H2 H' ∧ H' g = some (.lst [])) ⟨(fun b o x e' => by rw [upd_ne (ne_of_none e' hg)]; exact e'), upd_same⟩ (fun j H' _ ⟨k, _⟩ => .inl (.inl (keep k _ _ hT2))) ?_ ?_
      · rintro j x H6 hx ⟨k6, hG6⟩
        obtain ⟨dx, hdx, px⟩ := dpAll_get hd12 hx
        refine ⟨rfl, ?_⟩
        refine ⟨_, rfl, _, rfl, _, rfl, _, rfl, c, lo, fr, C, S, F, x, dx, rfl, hC9.same (keep k6), ok, few, Same.sqT (keep k6) hS9, okS, Same.sqT (keep k6) hF9, okF, Dp.same (keep k6) px, fine1 dx (List.mem_of_getElem? hdx), fun H7 s7 => ?_⟩
        exact ⟨_, rfl, iteF ⟨fun b o nb eb => s7 _ _ (k6 b o nb eb), s7 _ _ hG6⟩⟩
      · rintro H6 ⟨k6, hG6⟩
        refine ⟨Nat.zero_le _, fun g2 hg2 => ?_⟩
        have s6 := (keep k6).trans (same_upd (o := .lst []) hg2)
        refine ⟨.list [], .list [], .lst (.inl (.inl ((same_upd (o := .lst []) hg2) _ _ hG6))) .nil, .lst (.inl (.inl upd_same)) .nil, rfl, rfl, ?_⟩
        exact q _ ((hP2).same s6) ((k2).trans (Same.kp s6))
    | cons d0 ds0 =>
      obtain ⟨ds, eds⟩ : ∃ ds, d0 :: ds0 = ds := ⟨_, rfl⟩
      rw [eds] at hd2 l12 allW smW
      have l0 : 0 < ds.length := by rw [← eds, List.length_cons]; omega
      refine iteT ?_
      obtain ⟨a, xs, rfl, hT, hD⟩ := dp_tup hd2
      have lx : xs.length = ds.length := dpAll_length hD
      refine ⟨_, rfl, _, rfl, _, _, rfl, .inr hT, p, l, ds.length, by rw [lx]; rfl, hP2, l0, by omega, fun at_ H3 hat hP3 k3 => ?_⟩
      have k03 := k2.trans k3
      have hC3 := hCC.keep k03 hP.lists
      have hT3 := k3.sqT hP2.lists hT
      obtain ⟨dA, hdA⟩ : ∃ dA, ds[at_]? = some dA := ⟨_, List.getElem?_eq_getElem hat⟩
      have mA := List.mem_of_getElem? hdA
      obtain ⟨L, eA, L0, L10, inL⟩ := allW dA mA
      have nl : noLists ds = true := noLists_ways fun d m => by
        obtain ⟨L, e, _⟩ := allW d m
        exact ⟨L, e⟩
      obtain ⟨vA, hvA, pA2⟩ := dpAll_getD hD hdA
      subst eA
      have pA := dp_kp k3 hP2.lists _ _ (noList_lot L) pA2
      refine ⟨_, rfl, _, rfl, _, rfl, _, rfl, _, _, _, _, rfl, rfl, hT3, atI_nat hvA, p, l, c, C, vA, L, rfl, hP3, hC3, ok, pA, L0, L10, inL, fun u dB H4 hu smB hP4 k4 => ?_⟩
      have k24 := k3.trans k4
      have k04 := k2.trans k24
      have hT4 := k24.sqT hP2.lists hT
      have hd4 : Dp K H4 (.ref a) (.tuple ds) := .tup hT4 (dp_kps k24 hP2.lists _ _ nl hD)
      have hTT4 := k24 _ _ t1pl hT2
      have hd14 : DpAll K H4 xs1 es1 := dp_kps k24 hP2.lists _ _ (by rw [← ees1, eds]; show (noLists ds && (true && (true && (true && (true && (true && (true && ((noLists ds && true) && true)))))))) = true; rw [nl]; rfl) hd12
      have g4 : ∀ {σ : L2.St}, σ[4]? = some (some (.ref a)) → Gv K σ H4 (tVar 4) (.tuple ds) := fun e => gv_var e hd4
      have g6 : ∀ {σ : L2.St}, σ[6]? = some (some (vN at_)) → Gv K σ H4 (tVar 6) (.int (at_ : Int)) := fun e => gv_var e (dp_nat at_)
      have g7 : ∀ {σ : L2.St}, σ[7]? = some (some u) → Gv K σ H4 (tVar 7) dB := fun e => gv_var e hu
      have gA : ∀ {σ : L2.St}, σ[4]? = some (some (.ref a)) → σ[6]? = some (some (vN at_)) → Gv K σ H4 (tOp (rIxT K) (tVar 4) (tVar 6)) (lotD L) := fun e1 e2 => gv_ixT (g4 e1) (g6 e2) hdA
      refine ⟨_, rfl, lst_gvN (K := K) (gva_cons (gv_cat (g4 rfl) (gv_tup (gva_cons (gA rfl rfl) gva_nil) (by simp)) (by simp; omega)) (gva_cons (gv_drop (k := 1) (g4 rfl) gv_int) (gva_cons (gA rfl rfl) (gva_cons (gv_cat (gv_cat (gv_take (k := at_) (g4 rfl) (g6 rfl)) (gv_tup (gva_cons (g7 rfl) gva_nil) (by simp)) (by simp; omega)) (gv_drop (k := at_ + 1) (g4 rfl) (gv_add (g6 rfl) gv_int)) (by simp; omega)) (gva_cons (gv_tup (gva_cons (g7 rfl) gva_nil) (by simp)) gva_nil))))) (by simp) fun t2 xs2 H5 ht2 s5 hT5 hd5 => ?_⟩
      generalize ees2 : (_ :: _ : List PyData) = es2 at hd5
      have smL : Sm 1 (lotD L) := sm_lot (by omega)
      have inTake : ∀ e ∈ ds.take at_, Sm 1 e := fun e he => smW e (List.mem_of_mem_take he)
      have inDrop : ∀ {k : Nat}, ∀ e ∈ ds.drop k, Sm 1 e := fun e he => smW e (List.mem_of_mem_drop he)
      have mid : ∀ x : PyData, Sm 1 x → Sm 2 (.tuple (ds.take at_ ++ [x] ++ ds.drop (at_ + 1))) := fun x hx => by
        refine sm_tup (k := 1) (fun e he => ?_) (by simp; omega)
        rcases List.mem_append.mp he with he | he
        · rcases List.mem_append.mp he with he | he
          · exact inTake e he
          · rw [List.mem_singleton.mp he]
            exact hx
        · exact inDrop e he
      have one : ∀ {k : Nat} (x : PyData), Sm k x → Sm (k + 1) (.tuple [x]) := fun x hx => sm_tup (fun e he => by rw [List.mem_singleton.mp he]; exact hx) (by simp)
      have fine2 : ∀ e ∈ es2, Fine e := fun e he => by
        rw [← ees2] at he
        simp only [List.mem_cons, List.not_mem_nil, or_false] at he
        rcases he with rfl | rfl | rfl | rfl | rfl
        · refine (sm_tup (k := 1) (fun e he => ?_) (by simp; omega)).fine
          rcases List.mem_append.mp he with he | he
          · exact smW e he
          · rw [List.mem_singleton.mp he]
            exact smL
        · exact (sm_tup (k := 1) inDrop (by simp; omega)).fine
        · exact smL.up.fine
        · exact (mid dB smB).fine
        · exact (one dB smB).fine
      have len2 : es2.length = 5 := by rw [← ees2]; rfl
      have lx1 := dpAll_length hd1
      have lx2 := dpAll_length hd5
      refine ⟨t1, t2, xs1, xs2, rfl, rfl, s5 _ _ hTT4, hT5, by rw [sizeLine_eq]; omega, fun t3 ht3 => ?_⟩
      have s6 : Same H5 (upd H5 t3 (.lst (xs1 ++ xs2))) := same_upd ht3
      have hT6 : (upd H5 t3 (.lst (xs1 ++ xs2))) t3 = some (.lst (xs1 ++ xs2)) := upd_same
      generalize upd H5 t3 (.lst (xs1 ++ xs2)) = H6 at s6 hT6
      have s46 := s5.trans s6
      have hd6 : DpAll K H6 (xs1 ++ xs2) (es1 ++ es2) := dpAll_app (DpAll.same s46 hd14) (DpAll.same s6 hd5)
      have h4 := Dp.same s46 hd4
      have g4' : ∀ {σ : L2.St}, σ[4]? = some (some (.ref a)) → Gv K σ H6 (tVar 4) (.tuple ds) := fun e => gv_var e h4
      have g6' : ∀ {σ : L2.St}, σ[6]? = some (some (vN at_)) → Gv K σ H6 (tVar 6) (.int (at_ : Int)) := fun e => gv_var e (dp_nat at_)
      have gA' : ∀ {σ : L2.St}, σ[4]? = some (some (.ref a)) → σ[6]? = some (some (vN at_)) → Gv K σ H6 (tOp (rIxT K) (tVar 4) (tVar 6)) (.tuple (L.map nD)) := fun e1 e2 => gv_ixT (g4' e1) (g6' e2) hdA
      have e0 : (L.map nD)[0]? = some (nD (L.getD 0 0)) := by rw [List.getElem?_map, getD_at L0]; rfl
      refine ⟨_, rfl, lst_gvN (K := K) (gva_cons (gv_cat (gv_cat (gv_take (k := at_) (g4' rfl) (g6' rfl)) (gv_tup (gva_cons (gv_slTo (gA' rfl rfl) (gv_neg gv_int)) gva_nil) (by simp)) (by simp; omega)) (gv_drop (k := at_ + 1) (g4' rfl) (gv_add (g6' rfl) gv_int)) (by simp; omega)) (gva_cons (gv_tup (gva_cons (gv_slFrom (gA' rfl rfl) (gv_neg gv_int)) gva_nil) (by simp)) (gva_cons (gv_tup (gva_cons (gv_ixT (j := 0) (gA' rfl rfl) gv_int e0) gva_nil) (by simp)) gva_nil))) (by simp) fun t4 xs3 H7 ht4 s7 hT7 hd7 => ?_⟩
      generalize ees3 : (_ :: _ : List PyData) = es3 at hd7
      have natS : ∀ e ∈ L.map nD, Sm 0 e := fun e he => by
        obtain ⟨x, _, rfl⟩ := List.mem_map.mp he
        exact sm_int _
      have cutS : ∀ lo hi, Sm 1 (.tuple (cutG (L.map nD) lo hi)) := fun lo hi => sm_tup (k := 0) (fun e he => natS e (cutG_mem he)) (by have := cutG_few (xs := L.map nD) (lo := lo) (hi := hi); rw [List.length_map] at this; omega)
      have fine3 : ∀ e ∈ es3, Fine e := fun e he => by
        rw [← ees3] at he
        simp only [List.mem_cons, List.not_mem_nil, or_false] at he
        rcases he with rfl | rfl | rfl
        · exact (mid _ (cutS _ _)).fine
        · exact (one _ (cutS _ _)).fine
        · exact (one _ (sm_int _)).up.fine
      have len3 : es3.length = 3 := by rw [← ees3]; rfl
      have lx3 := dpAll_length hd7
      refine ⟨t3, t4, xs1 ++ xs2, xs3, rfl, rfl, s7 _ _ hT6, hT7, by rw [List.length_append, sizeLine_eq]; omega, fun t5 ht5 => ?_⟩
      have s8 : Same H7 (upd H7 t5 (.lst ((xs1 ++ xs2) ++ xs3))) := same_upd ht5
      have hT8 : (upd H7 t5 (.lst ((xs1 ++ xs2) ++ xs3))) t5 = some (.lst ((xs1 ++ xs2) ++ xs3)) := upd_same
      generalize upd H7 t5 (.lst ((xs1 ++ xs2) ++ xs3)) = H8 at s8 hT8
      have s48 := s46.trans (s7.trans s8)
      have hd8 : DpAll K H8 ((xs1 ++ xs2) ++ xs3) ((es1 ++ es2) ++ es3) := dpAll_app (DpAll.same (s7.trans s8) hd6) (DpAll.same s8 hd7)
      have fine8 : ∀ e ∈ (es1 ++ es2) ++ es3, Fine e := fun e he => by
        rcases List.mem_append.mp he with he | he
        · rcases List.mem_append.mp he with he | he
          · exact fine1 e he
          · exact fine2 e he
        · exact fine3 e he
      have hP8 := hP4.same s48
      have k08 : Kp [p, l] H H8 := k04.trans (Same.kp s48)
      obtain ⟨hC9, hS9, hF9⟩ : IsChart K H8 c C ∧ SqT K H8 lo (S.map vN) ∧ SqT K H8 fr (F.map vN) := ⟨hCC.keep k08 hP.lists, (k08).sqT hP.lists hS, (k08).sqT hP.lists hF⟩
      refine ⟨_, rfl, t5, rfl, ⟨_, .inl (.inl hT8)⟩, fun g hg => ?_⟩
      have keep : ∀ {H' : Hp}, Kp [g] H8 H' → Same H8 H' := fun {H'} k b o e' => k b o (fun m => by rw [List.mem_singleton.mp m, hg] at e'; cases e') e'
      refine lc_list (K := K) (xs := ((xs1 ++ xs2) ++ xs3)) (fun j H' => Kp [g] H8 H' ∧ H' g = some (.lst [])) ⟨(fun b o x e' => by rw [upd_ne (ne_of_none e' hg)]; exact e'), upd_same⟩ (fun j H' _ ⟨k, _⟩ => .inl (.inl (keep k _ _ hT8))) ?_ ?_
      · rintro j x H6 hx ⟨k6, hG6⟩
        obtain ⟨dx, hdx, px⟩ := dpAll_get hd8 hx
        refine ⟨rfl, ?_⟩
        refine ⟨_, rfl, _, rfl, _, rfl, _, rfl, c, lo, fr, C, S, F, x, dx, rfl, hC9.same (keep k6), ok, few, Same.sqT (keep k6) hS9, okS, Same.sqT (keep k6) hF9, okF, Dp.same (keep k6) px, fine8 dx (List.mem_of_getElem? hdx), fun H7 s7 => ?_⟩
        exact ⟨_, rfl, iteF ⟨fun b o nb eb => s7 _ _ (k6 b o nb eb), s7 _ _ hG6⟩⟩
      · rintro H6 ⟨k6, hG6⟩
        refine ⟨Nat.zero_le _, fun g2 hg2 => ?_⟩
        have s6 := (keep k6).trans (same_upd (o := .lst []) hg2)
        refine ⟨.list [], .list [], .lst (.inl (.inl ((same_upd (o := .lst []) hg2) _ _ hG6))) .nil, .lst (.inl (.inl upd_same)) .nil, rfl, rfl, ?_⟩
        exact q _ ((hP8).same s6) ((k08).trans (Same.kp s6))
end
end Ft

set_option Elab.async false
set_option linter.all false
set_option maxRecDepth 100000
set_option maxHeartbeats 4000000
namespace Ft
open PySem PySem.Spec PyProof.Rows L2
/-! sorted(t), t a tuple of tuples of ints -/
section
variable {P : Program} {w : World} {A : Around} {E : Value → Shared → Prop} {s : Shared}
theorem rows_flat : ∀ {h : Heap} {ns : List Int} {us : List Value} {bs : List Addr}, ReadsAll h us (ns.map PyData.int) bs → bs = []
  | _, [], _, _, z => by cases z; rfl
  | _, n :: ns, _, _, z => by
    cases z with
    | cons z1 z2 =>
      cases z1
      rw [rows_flat z2]
      rfl
theorem collect_tup {l : Addr} {vs : List Value} {Q : List Value → Shared → Prop} (hl : s.heap.IsTuple l vs.toArray) (line : vs.length ≤ sizeLine)
    (go : Q vs { s with heap := (s.heap.push (seqObj "list" #[] 0)).update s.heap.objs.size (Obj.mapSeq (· ++ vs.toArray)) }) : wpAny (model P w) A (collect (.ref l)) Q E s := by
  obtain ⟨o, ho, hc, n, hd⟩ := id hl
  unfold collect
  refine wpAny_bind (wpAny_runValue (codeAny_builtin entry_proto_collect' ?_))
  show wpAny _ _ (do again (.builtin "list.__iadd__" ⟨[← newList [], .ref l], []⟩)) _ _ s
  refine wpAny_bind (wpAny_newList (wpAny_pure ⟨Code.quiet_builtin _ (by decide +kernel), codeAny_builtin entry_list_iadd' ?_⟩))
  show wpAny _ _ (Builtin.List.listExtendWith (.ref s.heap.objs.size) (.ref l) (.ref s.heap.objs.size)) _ _ { s with heap := s.heap.push (seqObj "list" #[] 0) }
  unfold Builtin.List.listExtendWith
  have ho' : (s.heap.push (seqObj "list" #[] 0)).get? l = some o := Heap.get?_push_of_some _ ho
  refine wpAny_bind (wpAny_typeOf (T := "tuple") ⟨o, ho', hc⟩ ?_)
  rw [if_pos (by simp)]
  refine wpAny_bind (listItems_at ho' hd ?_)
  refine wpAny_bind (listItems_at (xs := #[]) (n := 0) (Heap.get?_push_size _ rfl) rfl ?_)
  rw [if_neg (by simp)]
  refine wpAny_bind (listUpdate_at (xs := #[]) (n := 0) (Heap.get?_push_size _ rfl) rfl ?_ (Nat.zero_le _) (by show (#[] ++ vs.toArray).size ≤ sizeLine + 1; simp only [Array.size_append, List.size_toArray, List.length_nil]; omega))
  refine wpAny_pure ?_
  show wpAny (model P w) A (do
      let o ← load s.heap.objs.size
      match o.data with
      | .seq xs _ => pure xs.toList
      | _ => unsupported "internal:collect") Q E { s with heap := (s.heap.push (seqObj "list" #[] 0)).update s.heap.objs.size (Obj.mapSeq (· ++ vs.toArray)) }
  refine wpAny_bind (wpAny_load (get?_update_seq (Heap.get?_push_size _ rfl) _) ?_)
  show wpAny _ _ (pure ((#[] : Array Value) ++ vs.toArray).toList) Q E _
  rw [show ((#[] : Array Value) ++ vs.toArray).toList = vs by simp]
  exact wpAny_pure go
theorem sorted_rowsT {a : Addr} {L : List Row} {Q : Value → Shared → Prop} (hl : s.heap.IsTuple a (L.map fun q => Value.ref q.1).toArray) (line : L.length ≤ sizeLine) (hu : A.units + 64 < cLine) (hne : ∀ p ∈ L, p.2 ≠ [])
    (rd : ∀ p ∈ L, ∃ as, Reads s.heap (.ref p.1) (encR p) as)
    (done : ∀ s' p (c : Nat), (∀ b o, s.heap.get? b = some o → s'.heap.get? b = some o) → s'.gens = s.gens → s'.os = s.os → s.heap.objs.size ≤ p →
      s'.heap.get? p = some (seqObj "list" ((L.mergeSort leR).map fun q => Value.ref q.1).toArray c) → Q (.ref p) s') :
    wpAny (model P w) A (call (.builtin "sorted") [.ref a]) Q E s := by
  refine Calls.call_function_entry kind_sorted plain_sorted entry_sorted (args_sorted1 _) ?_
  unfold Builtin.«sorted»
  refine wpAny_bind (m := checkCount "sorted" 1 1 _) (wpAny_pure ?_)
  refine wpAny_bind (collect_tup hl (by rw [List.length_map]; exact line) ?_)
  obtain ⟨h1, eh⟩ : ∃ h1, (s.heap.push (seqObj "list" #[] 0)).update s.heap.objs.size (Obj.mapSeq (· ++ (L.map fun q => Value.ref q.1).toArray)) = h1 := ⟨_, rfl⟩
  have k1 : ∀ b o, s.heap.get? b = some o → h1.get? b = some o := fun b o hb => by
    rw [← eh]
    exact (Heap.get?_update_other _ _ (Nat.ne_of_gt (Heap.lt_size hb))).trans (Heap.get?_push_of_some _ hb)
  have hz : s.heap.objs.size ≤ h1.objs.size := by
    rw [← eh, Heap.size_update, size_push']
    exact Nat.le_succ _
  rw [eh]
  refine wpAny_bind (wpAny_newList ?_ (by simpa using line))
  have hoL : (h1.push (seqObj "list" (L.map fun q => Value.ref q.1).toArray 0)).get? h1.objs.size = some (seqObj "list" (L.map fun q => Value.ref q.1).toArray 0) := Heap.get?_push_size _ rfl
  have er : ∀ (M : List Row), (∀ q ∈ M, q ∈ L) → PySem.W.EachIs (fun v b => ∃ as, Reads (h1.push (seqObj "list" (L.map fun q => Value.ref q.1).toArray 0)) v (encR b) as ∧ h1.objs.size ∉ as) (M.map fun p => Value.ref p.1) M := by
    intro M
    induction M with
    | nil => intro _; exact .nil
    | cons p M ih =>
      intro hM
      obtain ⟨as, r0⟩ := rd p (hM p List.mem_cons_self)
      have r1 := PyProof.Rows.Reads.keeps (h' := h1.push (seqObj "list" (L.map fun q => Value.ref q.1).toArray 0)) (fun b u e => Heap.get?_push_of_some _ (k1 b u e)) r0
      refine .cons ⟨as, r1, ?_⟩ (ih fun q hq => hM q (List.mem_cons_of_mem _ hq))
      have e0 : as = [] := by
        cases r0 with
        | tuple _ _ _ z => exact rows_flat z
      rw [e0]
      exact List.not_mem_nil
  refine wpAny_bind (wpAny_holding (PySem.W.list_sort_data (R := fun v (p : Row) => v = Value.ref p.1) (bs := L) (enc := encR) hoL (rows_each L) (er L fun _ h => h) (rows_alike L)
    (rows_sortable hne) line (rows_deep (k := 1) (by show A.units + 1 + 1 + 1 < cLine; omega)) fun out hlen he => ?_))
  rw [leR_is] at he
  have eo := rows_back he
  subst eo
  obtain ⟨c, hc2⟩ := sortedHeap_at (vs := L.map fun q => Value.ref q.1) (out := ((L.mergeSort leR).map fun q => Value.ref q.1).toArray) hoL
  refine wpAny_pure ⟨_, rfl, done _ h1.objs.size c (fun b u e => ?_) rfl rfl hz hc2⟩
  have q := k1 b u e
  have hlt := Heap.lt_size q
  show (sortedHeap (h1.push (seqObj "list" (L.map fun q => Value.ref q.1).toArray 0)) h1.objs.size (L.map fun q => Value.ref q.1) _).get? b = some u
  rw [sortedHeap_old (Nat.ne_of_lt hlt) (by rw [size_push']; exact Nat.lt_succ_of_lt hlt)]
  exact Heap.get?_push_of_some _ q
end
def rSortedTR (K : PySem.W.Frag) : List V → Hp → VK → Prop := fun vs H Q => ∃ (a : Addr) (L : List Row), vs = [V.ref a] ∧ SqT K H a (L.map fun p => V.ref p.1) ∧ (∀ p ∈ L, SqT K H p.1 (p.2.map V.int)) ∧ (∀ p ∈ L, p.2 ≠ []) ∧
  ∀ p, H p = none → Q (.ref p) (upd H p (.lst ((L.mergeSort leR).map fun p => V.ref p.1)))
theorem cr_sortedTR {X : Cx} (hu : X.A.units + 64 < cLine) : CallR X (.builtin "sorted") (rSortedTR X.K) := by
  intro pins s σ H xs us Q I r h
  obtain ⟨a, L, rfl, hl, hk, hne, q⟩ := h
  rw [Vals.ref1 r]
  obtain ⟨its, rv, pl, hz⟩ := I.tuple hl
  have ei : its = L.map fun p => Value.ref p.1 := refs_of_vals rv
  subst ei
  have hz2 : L.length ≤ sizeLine := by simpa using hz
  have pt : s.heap.IsTuple a (L.map fun p => Value.ref p.1).toArray := pl
  refine sorted_rowsT pt hz2 hu hne (fun p hp => Dp.reads I (encR p) (.ref p.1) (.ref p.1) (.tup (hk p hp) (dpAll_ints p.2)) rfl) fun s' p c k g o hp hg => ?_
  have line : ((L.mergeSort leR).map fun q => V.ref q.1).length ≤ sizeLine := by rw [List.length_map, List.length_mergeSort]; exact hz2
  have free : H p = none := I.hok.fresh hp
  have J : Inv X pins σ (upd H p (.lst ((L.mergeSort leR).map fun q => V.ref q.1))) s' := I.call' (s' := s') (ch := []) o (Un.laid k hp free) (I.hok.laid k hp ⟨line, _, c, vals_of_refs _, hg⟩) (by rw [g]; exact I.bare) (fun _ z => nomatch z)
  exact ⟨.ref p, _, J, rfl, q p free⟩
/-! sorted(t), t a tuple of ints -/
def rSortedIT (K : PySem.W.Frag) : List V → Hp → VK → Prop := fun vs H Q => ∃ (a : Addr) (ns : List Int), vs = [V.ref a] ∧ SqT K H a (ns.map V.int) ∧
  ∀ (ns' : List Int) (p : Addr), ns'.Perm ns → ns'.Pairwise (· ≤ ·) → H p = none → Q (.ref p) (upd H p (.lst (ns'.map V.int)))
theorem cr_sortedIT {X : Cx} : CallR X (.builtin "sorted") (rSortedIT X.K) := by
  intro pins s σ H vs us Q I r h
  obtain ⟨a, ns, rfl, hs, q⟩ := h
  rw [Vals.ref1 r]
  obtain ⟨its, rv, pl, hz⟩ := I.tuple hs
  have pt : s.heap.IsTuple a its.toArray := pl
  have hi := rv.ints
  have line : its.length ≤ sizeLine := by rw [← rv.length]; exact hz
  refine Calls.call_function_entry kind_sorted plain_sorted entry_sorted (args_sorted1 _) ?_
  unfold Builtin.«sorted»
  refine wpAny_bind (m := checkCount "sorted" 1 1 _) (wpAny_pure ?_)
  refine wpAny_bind (collect_tup pt line ?_)
  obtain ⟨h1, eh⟩ : ∃ h1, (s.heap.push (seqObj "list" #[] 0)).update s.heap.objs.size (Obj.mapSeq (· ++ its.toArray)) = h1 := ⟨_, rfl⟩
  have k1 : ∀ b o, s.heap.get? b = some o → h1.get? b = some o := fun b o hb => by
    rw [← eh]
    exact (Heap.get?_update_other _ _ (Nat.ne_of_gt (Heap.lt_size hb))).trans (Heap.get?_push_of_some _ hb)
  have hz1 : s.heap.objs.size ≤ h1.objs.size := by
    rw [← eh, Heap.size_update, size_push']
    exact Nat.le_succ _
  rw [eh]
  refine wpAny_bind (wpAny_newList ?_ (by simpa using line))
  have hoL : (h1.push (seqObj "list" its.toArray 0)).get? h1.objs.size = some (seqObj "list" its.toArray 0) := Heap.get?_push_size _ rfl
  refine wpAny_bind (wpAny_holding (wpAny_call_entry PyProof.Rows.slot_list_sort ⟨_, hoL, rfl⟩ PyProof.Rows.entry_list_sort
    (SrtO.list_sort_ord SrtO.swo_int hoL line (fun h2 => SrtO.ints_sortable hi h2) fun out h1' h2 => ⟨.none, rfl, ?_⟩) (PyProof.Rows.args_list_sort _)))
  obtain ⟨g1, g2, g3⟩ := SrtO.ints_out hi h1' h2
  obtain ⟨c, hc2⟩ := sortedHeap_at (vs := its) (out := out.toArray) hoL
  have free : H h1.objs.size = none := I.hok.fresh hz1
  have keep : ∀ b u, s.heap.get? b = some u → (sortedHeap (h1.push (seqObj "list" its.toArray 0)) h1.objs.size its out.toArray).get? b = some u := fun b u e => by
    have q := k1 b u e
    have hlt := Heap.lt_size q
    rw [sortedHeap_old (Nat.ne_of_lt hlt) (by rw [size_push']; exact Nat.lt_succ_of_lt hlt)]
    exact Heap.get?_push_of_some _ q
  have line2 : ((out.map SrtO.iv).map V.int).length ≤ sizeLine := by
    rw [List.length_map, g2.length_eq]
    rw [List.length_map] at hz
    exact hz
  have J : Inv X pins σ (upd H h1.objs.size (.lst ((out.map SrtO.iv).map V.int))) { s with heap := sortedHeap (h1.push (seqObj "list" its.toArray 0)) h1.objs.size its out.toArray } :=
    I.call' (s' := { s with heap := sortedHeap (h1.push (seqObj "list" its.toArray 0)) h1.objs.size its out.toArray }) (ch := []) rfl (Un.laid keep hz1 free) (I.hok.laid keep hz1 ⟨line2, _, c, vals_of_ints g1, hc2⟩) I.bare (fun _ z => nomatch z)
  exact wpAny_pure ⟨_, rfl, ⟨.ref h1.objs.size, _, J, rfl, q _ _ g2 g3 free⟩⟩
end Ft

set_option Elab.async false
set_option linter.all false
set_option maxRecDepth 100000
set_option maxHeartbeats 8000000
namespace Ft
open PySem PySem.Spec PyProof.Rows L2
theorem no_map {d : PyData} (h : ∀ C : Chart, C.Ok → d ≠ chartD C) : (mapErr d).isSome = true := by
  cases e : mapErr d with
  | some x => rfl
  | none =>
    obtain ⟨C, ok, e2⟩ := mapErr_none e
    exact absurd e2 (h C ok)
theorem no_lot {n : Nat} {d : PyData} (h : ∀ ws : List Nat, ws.Pairwise (· < ·) → (∀ x ∈ ws, x < n) → d ≠ lotD ws) : lotOk n d = false := by
  cases e : lotOk n d with
  | false => rfl
  | true =>
    obtain ⟨ws, e2, up, lt⟩ := lotOk_is e
    exact absurd e2 (h ws up lt)
theorem no_free {C : Chart} {d : PyData} (h : lotOk C.n d = false) : freeD C d = false := by
  unfold freeD
  split
  · split
    · rw [h]; rfl
    · rfl
  · rfl
section
variable {P : Program} {w : World} {K : PySem.W.Frag} {mg : Str → Option Value} {base : Heap} {ca : Str → Addr}
/-! ### _law_way_no_lots -/
def sp_law_way_no_lots (K : PySem.W.Frag) : Sp := fun vs H Q _ => ∃ (c : Addr) (C : Chart), vs = [.ref c] ∧ IsChart K H c C ∧ C.Ok ∧ ∀ (t : Addr) (xs : List V) (ds : List PyData) (H' : Hp), H' t = some (.lst xs) → DpAll K H' xs ds → ds.length = 11 → (∀ d ∈ ds, lotOk C.n d = false) → Same H H' → Q (.ref t) H'
theorem cal_law_way_no_lots (T : Txt mg) (D : Def K mg "_law_way_no_lots" s_law_way_no_lots) : Cal P w K mg base 1 "_law_way_no_lots" (sp_law_way_no_lots K) := by
  refine cal_of D sc_law_way_no_lots (fun _ _ _ _ _ _ us hl => match us, hl with | [_], _ => rfl) (fun vs H Q E h => ?_) (fun f cdv A outer s H vs Q E hr h => ?_)
  · obtain ⟨c, C, rfl, _⟩ := h
    rfl
  · obtain ⟨c, C, rfl, hCC, ok, q⟩ := h
    refine ⟨_, (pss_one (ps_ret (pe_lst (pa_cons pe_non (pa_cons pe_str (pa_cons pe_int (pa_cons (pe_tup (pa_cons (pe_ix (show IxR _ (rIxT K) from ix_tup) (pv 0) pe_int (fun _ _ => rfl)) pa_nil)) (pa_cons (pe_tup (pa_cons (pe_un un_neg pe_int) pa_nil)) (pa_cons (pe_tup (pa_cons pe_bl pa_nil)) (pa_cons (pe_tup (pa_cons pe_int (pa_cons pe_int pa_nil))) (pa_cons (pe_tup (pa_cons pe_int (pa_cons pe_int pa_nil))) (pa_cons (pe_tup (pa_cons pe_str pa_nil)) (pa_cons (pe_tup (pa_cons (pe_tup (pa_cons pe_int pa_nil)) pa_nil)) (pa_cons (pe_tup (pa_cons pe_non pa_nil)) pa_nil)))))))))))))), ?_⟩
    have hc : Dp K H (.ref c) (.tuple [nD C.n, .tuple (C.roads.map pairD), lotD C.wished]) := dp_chart hCC
    refine lst_gv (K := K) (gva_cons gv_non (gva_cons gv_str (gva_cons gv_int (gva_cons (gv_tup (gva_cons (gv_ixT (j := 0) (gv_var rfl hc) gv_int rfl) gva_nil) (by simp)) (gva_cons (gv_tup (gva_cons (gv_neg gv_int) gva_nil) (by simp)) (gva_cons (gv_tup (gva_cons gv_bl gva_nil) (by simp)) (gva_cons (gv_tup (gva_cons gv_int (gva_cons gv_int gva_nil)) (by simp)) (gva_cons (gv_tup (gva_cons gv_int (gva_cons gv_int gva_nil)) (by simp)) (gva_cons (gv_tup (gva_cons gv_str gva_nil) (by simp)) (gva_cons (gv_tup (gva_cons (gv_tup (gva_cons gv_int gva_nil) (by simp)) gva_nil) (by simp)) (gva_cons (gv_tup (gva_cons gv_non gva_nil) (by simp)) gva_nil))))))))))) (by simp) fun t xs H1 s1 hT hd => ?_
    refine q t xs _ H1 hT hd rfl (fun d hd' => no_lot fun ws up lt e => ?_) s1
    simp only [List.mem_cons, List.not_mem_nil, or_false] at hd'
    subst e
    unfold lotD at hd'
    rcases hd' with h | h | h | h | h | h | h | h | h | h | h
    · cases h
    · cases h
    · cases h
    all_goals (injection h with h; cases ws with | nil => cases h | cons a ws => ?_)
    · simp only [List.map_cons, List.cons.injEq, nD, PyData.int.injEq, List.map_eq_nil_iff] at h
      have := lt a List.mem_cons_self
      have := h.1
      omega
    · simp only [List.map_cons, List.cons.injEq, nD, PyData.int.injEq, List.map_eq_nil_iff] at h
      have := h.1
      omega
    · simp [nD] at h
    · cases ws with
      | nil => simp [nD] at h
      | cons b ws =>
        simp only [List.map_cons, List.cons.injEq, nD, PyData.int.injEq, List.map_eq_nil_iff] at h
        have := (List.pairwise_cons.mp up).1 b List.mem_cons_self
        have := h.1
        have := h.2.1
        omega
    · cases ws with
      | nil => simp [nD] at h
      | cons b ws =>
        simp only [List.map_cons, List.cons.injEq, nD, PyData.int.injEq, List.map_eq_nil_iff] at h
        have := (List.pairwise_cons.mp up).1 b List.mem_cons_self
        have := h.1
        have := h.2.1
        omega
    · simp [nD] at h
    · simp [nD] at h
    · simp [nD] at h
/-! ### _law_way_no_charts -/
/-- a row: a thing that is no map, and two texts -/
def NoMap (d : PyData) : Prop := ∃ dc x y, d = .tuple [dc, .str x, .str y] ∧ (mapErr dc).isSome = true
def sp_law_way_no_charts (K : PySem.W.Frag) : Sp := fun vs H Q _ => ∃ (c : Addr) (C : Chart), vs = [.ref c] ∧ IsChart K H c C ∧ C.Ok ∧ ∀ (t : Addr) (xs : List V) (ds : List PyData) (H' : Hp), H' t = some (.lst xs) → DpAll K H' xs ds → ds.length = 10 → (∀ d ∈ ds, NoMap d) → Same H H' → Q (.ref t) H'
theorem cal_law_way_no_charts (T : Txt mg) (D : Def K mg "_law_way_no_charts" s_law_way_no_charts) : Cal P w K mg base 1 "_law_way_no_charts" (sp_law_way_no_charts K) := by
  refine cal_of D sc_law_way_no_charts (fun _ _ _ _ _ _ us hl => match us, hl with | [_], _ => rfl) (fun vs H Q E h => ?_) (fun f cdv A outer s H vs Q E hr h => ?_)
  · obtain ⟨c, C, rfl, _⟩ := h
    rfl
  · obtain ⟨c, C, rfl, ⟨r, wd, ts, hC⟩, ok, q⟩ := h
    have n60 := ok.n60
    refine ⟨_, (pss_cons (ps_asg (pv 0) (show PG _ _ (gTup K 3 _) from pg_tup (by rfl) (pgs_cons (pg_name (i := 1) sc_law_way_no_charts.nd rfl (Or.inl rfl)) (pgs_cons (pg_name (i := 2) sc_law_way_no_charts.nd rfl (Or.inl rfl)) (pgs_cons (pg_name (i := 3) sc_law_way_no_charts.nd rfl (Or.inl rfl)) pgs_nil)))))
      (pss_cons (ps_set (i := 4) sc_law_way_no_charts.nd rfl (Or.inl rfl) (pe_op (show OpR _ _ (rCatA K) from op_catA) (pv 2) (pe_tup (pa_cons (pe_tup (pa_cons pe_int (pa_cons (pv 1) pa_nil))) pa_nil))))
      (pss_cons (ps_set (i := 5) sc_law_way_no_charts.nd rfl (Or.inl rfl) (pe_lst (pa_cons (pe_tup (pa_cons pe_non (pa_cons pe_str (pa_cons pe_str pa_nil)))) (pa_cons (pe_tup (pa_cons (pe_tup (pa_cons (pv 1) (pa_cons (pv 2) pa_nil))) (pa_cons pe_str (pa_cons pe_str pa_nil)))) (pa_cons (pe_tup (pa_cons (pe_tup (pa_cons pe_int (pa_cons (pe_tup pa_nil) (pa_cons (pe_tup pa_nil) pa_nil)))) (pa_cons pe_str (pa_cons pe_str pa_nil)))) pa_nil)))))
      (pss_cons (ps_set (i := 5) sc_law_way_no_charts.nd rfl (Or.inl rfl) (pe_op op_cat (pv 5) (pe_lst (pa_cons (pe_tup (pa_cons (pe_tup (pa_cons (pe_un un_neg pe_int) (pa_cons (pe_tup pa_nil) (pa_cons (pe_tup pa_nil) pa_nil)))) (pa_cons pe_str (pa_cons pe_str pa_nil)))) (pa_cons (pe_tup (pa_cons (pe_tup (pa_cons pe_bl (pa_cons (pe_tup pa_nil) (pa_cons (pe_tup pa_nil) pa_nil)))) (pa_cons pe_str (pa_cons pe_str pa_nil)))) pa_nil)))))
      (pss_cons (ps_expr (pe_bm PySem.F.plainAttrs_list PySem.F.slot_list_append PySem.F.type_list_append mt_append (pv 5) (pa_cons (pe_tup (pa_cons (pe_tup (pa_cons pe_int (pa_cons pe_non (pa_cons pe_non pa_nil)))) (pa_cons pe_str (pa_cons pe_str pa_nil)))) pa_nil)))
      (pss_cons (ps_set (i := 5) sc_law_way_no_charts.nd rfl (Or.inl rfl) (pe_op op_cat (pv 5) (pe_lst (pa_cons (pe_tup (pa_cons (pe_tup (pa_cons (pv 1) (pa_cons pe_non (pa_cons (pv 3) pa_nil)))) (pa_cons pe_str (pa_cons pe_str pa_nil)))) (pa_cons (pe_tup (pa_cons (pe_tup (pa_cons (pv 1) (pa_cons (pv 4) (pa_cons pe_non pa_nil)))) (pa_cons pe_str (pa_cons (pe_callTy (show CallR _ _ rStrI from call_strI) (by rfl) T.str (by decide +kernel) (pa_cons (pe_callB (show CallR _ _ (rLenS K) from call_lenS) (by rfl) T.len (by decide +kernel) (pa_cons (pv 2) pa_nil)) pa_nil)) pa_nil)))) pa_nil)))))
      (pss_cons (ps_set (i := 5) sc_law_way_no_charts.nd rfl (Or.inl rfl) (pe_op op_cat (pv 5) (pe_lst (pa_cons (pe_tup (pa_cons (pe_tup (pa_cons (pv 1) (pa_cons (pv 2) (pa_cons pe_non pa_nil)))) (pa_cons pe_str (pa_cons pe_str pa_nil)))) pa_nil))))
      (pss_one (ps_ret (pe_op op_cat (pv 5) (pe_lst (pa_cons (pe_tup (pa_cons (pe_tup (pa_cons (pv 1) (pa_cons (pv 2) (pa_cons (pe_op (show OpR _ _ (rCatA K) from op_catA) (pv 3) (pe_tup (pa_cons (pe_un un_neg pe_int) pa_nil))) pa_nil)))) (pa_cons pe_str (pa_cons (pe_callTy (show CallR _ _ rStrI from call_strI) (by rfl) T.str (by decide +kernel) (pa_cons (pe_callB (show CallR _ _ (rLenS K) from call_lenS) (by rfl) T.len (by decide +kernel) (pa_cons (pv 3) pa_nil)) pa_nil)) pa_nil)))) pa_nil)))))))))))), ?_⟩
    refine ⟨_, rfl, c, _, rfl, hC.top, rfl, _, _, rfl, _, _, rfl, _, _, rfl, rfl, ?_⟩
    have hN : Dp K H (vN C.n) (nD C.n) := dp_nat _
    have hR : Dp K H (.ref r) (.tuple (C.roads.map pairD)) := .tup hC.row (dp_pairs hC.prs)
    have hW : Dp K H (.ref wd) (lotD C.wished) := dp_lot hC.wis
    have many := ok.many
    refine seq_gv (K := K) (gv_cat (gv_var rfl hR) (gv_tup (gva_cons (gv_tup (gva_cons gv_int (gva_cons (gv_var rfl hN) gva_nil)) (by simp)) gva_nil) (by simp)) (by simp; omega)) fun vb H1 s1 hb => ?_
    have hN1 := Dp.same s1 hN
    have hR1 := Dp.same s1 hR
    refine at_seq ?_
    unfold tAsg
    refine lst_gvN (K := K) (gva_cons (gv_tup (gva_cons gv_non (gva_cons gv_str (gva_cons gv_str gva_nil))) (by simp)) (gva_cons (gv_tup (gva_cons (gv_tup (gva_cons (gv_var rfl hN1) (gva_cons (gv_var rfl hR1) gva_nil)) (by simp)) (gva_cons gv_str (gva_cons gv_str gva_nil))) (by simp)) (gva_cons (gv_tup (gva_cons (gv_tup (gva_cons gv_int (gva_cons (gv_tup gva_nil (by simp)) (gva_cons (gv_tup gva_nil (by simp)) gva_nil))) (by simp)) (gva_cons gv_str (gva_cons gv_str gva_nil))) (by simp)) gva_nil))) (by simp) fun t1 xs1 H2 ht1 s2 hT1 hd1 => ?_
    generalize ees1 : (_ :: _ : List PyData) = es1 at hd1
    refine ⟨_, rfl, lst_gvN (K := K) (gva_cons (gv_tup (gva_cons (gv_tup (gva_cons (gv_neg gv_int) (gva_cons (gv_tup gva_nil (by simp)) (gva_cons (gv_tup gva_nil (by simp)) gva_nil))) (by simp)) (gva_cons gv_str (gva_cons gv_str gva_nil))) (by simp)) (gva_cons (gv_tup (gva_cons (gv_tup (gva_cons gv_bl (gva_cons (gv_tup gva_nil (by simp)) (gva_cons (gv_tup gva_nil (by simp)) gva_nil))) (by simp)) (gva_cons gv_str (gva_cons gv_str gva_nil))) (by simp)) gva_nil)) (by simp) fun t2 xs2 H4 ht2 s4 hT2 hd2 => ?_⟩
    generalize ees2 : (_ :: _ : List PyData) = es2 at hd2
    have len1 : es1.length = 3 := by rw [← ees1]; rfl
    have len2 : es2.length = 2 := by rw [← ees2]; rfl
    have lx1 := dpAll_length hd1
    have lx2 := dpAll_length hd2
    have hdA : DpAll K H4 (xs1 ++ xs2) (es1 ++ es2) := dpAll_app (DpAll.same s4 hd1) hd2
    refine ⟨t1, t2, xs1, xs2, rfl, rfl, s4 _ _ hT1, hT2, by rw [sizeLine_eq]; omega, fun t3 ht3 => ?_⟩
    have s5 : Same H4 (upd H4 t3 (.lst (xs1 ++ xs2))) := same_upd ht3
    have hT5 : (upd H4 t3 (.lst (xs1 ++ xs2))) t3 = some (.lst (xs1 ++ xs2)) := upd_same
    generalize upd H4 t3 (.lst (xs1 ++ xs2)) = H5 at s5 hT5
    refine ⟨_, rfl, .inl ⟨rfl, _, .inl (.inl hT5)⟩, ?_⟩
    refine Gv.go (K := K) (d := .tuple [.tuple [.int 61, .none, .none], .str "BadMap", .str "-2"]) (gv_tup (gva_cons (gv_tup (gva_cons gv_int (gva_cons gv_non (gva_cons gv_non gva_nil))) (by simp)) (gva_cons gv_str (gva_cons gv_str gva_nil))) (by simp)) fun v6 H6 s6 hv6 => ?_
    have hT6 := s6 _ _ hT5
    refine ⟨t3, _, _, rfl, rfl, hT6, by rw [List.length_append]; exact small1000 (by omega), ?_⟩
    have s7 : Same H4 (upd H6 t3 (.lst ((xs1 ++ xs2) ++ [v6]))) := fun b o e => by
      rw [upd_ne (ne_of_none e ht3)]
      exact s6 _ _ (s5 _ _ e)
    have hv7 : Dp K (upd H6 t3 (.lst ((xs1 ++ xs2) ++ [v6]))) v6 (.tuple [.tuple [.int 61, .none, .none], .str "BadMap", .str "-2"]) := by
      refine dp_kp (ex := [t3]) (H := H6) (fun b o nb eb => ?_) (fun b hb => ?_) _ _ rfl hv6
      · rw [upd_ne (fun z => nb (by rw [z]; simp))]
        exact eb
      · rw [List.mem_singleton.mp hb]
        exact ⟨_, hT6, (fun _ y => nomatch y), (fun _ _ y => nomatch y)⟩
    have hT7 : (upd H6 t3 (.lst ((xs1 ++ xs2) ++ [v6]))) t3 = some (.lst ((xs1 ++ xs2) ++ [v6])) := upd_same
    generalize upd H6 t3 (.lst ((xs1 ++ xs2) ++ [v6])) = H7 at s7 hv7 hT7
    have hd7 := dpAll_app (DpAll.same s7 hdA) (.cons hv7 .nil)
    have s07 := ((s1.trans s2).trans s4).trans s7
    have hN7 := Dp.same s07 hN
    have hR7 := Dp.same s07 hR
    have hW7 := Dp.same s07 hW
    have hb7 := Dp.same ((s2.trans s4).trans s7) hb
    have hdT7 : ∃ xsA esA, H7 t3 = some (.lst xsA) ∧ DpAll K H7 xsA esA ∧ esA = (es1 ++ es2) ++ [.tuple [.tuple [.int 61, .none, .none], .str "BadMap", .str "-2"]] := ⟨_, _, hT7, hd7, rfl⟩
    obtain ⟨xsA, esA, hTA, hdA', eA⟩ := hdT7
    have lenA : esA.length = 6 := by rw [eA, List.length_append, List.length_append, len1, len2]; rfl
    have lxA := dpAll_length hdA'
    refine ⟨_, rfl, lst_gvN (K := K) (gva_cons (gv_tup (gva_cons (gv_tup (gva_cons (gv_var rfl hN7) (gva_cons gv_non (gva_cons (gv_var rfl hW7) gva_nil))) (by simp)) (gva_cons gv_str (gva_cons gv_str gva_nil))) (by simp)) (gva_cons (gv_tup (gva_cons (gv_tup (gva_cons (gv_var rfl hN7) (gva_cons (gv_var rfl hb7) (gva_cons gv_non gva_nil))) (by simp)) (gva_cons gv_str (gva_cons (gv_str1 (gv_len (gv_var rfl hR7)) (by simp; omega)) gva_nil))) (by simp)) gva_nil)) (by simp) fun t4 xs3 H8 ht4 s8 hT8 hd8 => ?_⟩
    generalize ees3 : (_ :: _ : List PyData) = es3 at hd8
    have len3 : es3.length = 2 := by rw [← ees3]; rfl
    have lx3 := dpAll_length hd8
    refine ⟨t3, t4, _, xs3, rfl, rfl, s8 _ _ hTA, hT8, by rw [sizeLine_eq]; omega, fun t5 ht5 => ?_⟩
    have s9 : Same H8 (upd H8 t5 (.lst (xsA ++ xs3))) := same_upd ht5
    have hT9 : (upd H8 t5 (.lst (xsA ++ xs3))) t5 = some (.lst (xsA ++ xs3)) := upd_same
    generalize upd H8 t5 (.lst (xsA ++ xs3)) = H9 at s9 hT9
    have hd9 := dpAll_app (DpAll.same (s8.trans s9) hdA') (DpAll.same s9 hd8)
    have hN9 := Dp.same (s8.trans s9) hN7
    have hR9 := Dp.same (s8.trans s9) hR7
    have hW9 := Dp.same (s8.trans s9) hW7
    refine ⟨_, rfl, lst_gvN (K := K) (gva_cons (gv_tup (gva_cons (gv_tup (gva_cons (gv_var rfl hN9) (gva_cons (gv_var rfl hR9) (gva_cons gv_non gva_nil))) (by simp)) (gva_cons gv_str (gva_cons gv_str gva_nil))) (by simp)) gva_nil) (by simp) fun t6 xs4 H10 ht6 s10 hT10 hd10 => ?_⟩
    generalize ees4 : (_ :: _ : List PyData) = es4 at hd10
    have len4 : es4.length = 1 := by rw [← ees4]; rfl
    have lx4 := dpAll_length hd10
    refine ⟨t5, t6, _, xs4, rfl, rfl, s10 _ _ hT9, hT10, by rw [List.length_append, sizeLine_eq]; omega, fun t7 ht7 => ?_⟩
    have s11 : Same H10 (upd H10 t7 (.lst ((xsA ++ xs3) ++ xs4))) := same_upd ht7
    have hT11 : (upd H10 t7 (.lst ((xsA ++ xs3) ++ xs4))) t7 = some (.lst ((xsA ++ xs3) ++ xs4)) := upd_same
    generalize upd H10 t7 (.lst ((xsA ++ xs3) ++ xs4)) = H11 at s11 hT11
    have hd11 := dpAll_app (DpAll.same (s10.trans s11) hd9) (DpAll.same s11 hd10)
    have hN11 := Dp.same (s10.trans s11) hN9
    have hR11 := Dp.same (s10.trans s11) hR9
    have hW11 : Dp K H11 (.ref wd) (.tuple (C.wished.map nD)) := Dp.same (s10.trans s11) hW9
    have lw := up_len ok.upW ok.inW
    refine ⟨_, rfl, lst_gvN (K := K) (gva_cons (gv_tup (gva_cons (gv_tup (gva_cons (gv_var rfl hN11) (gva_cons (gv_var rfl hR11) (gva_cons (gv_cat (gv_var rfl hW11) (gv_tup (gva_cons (gv_neg gv_int) gva_nil) (by simp)) (by simp; omega)) gva_nil))) (by simp)) (gva_cons gv_str (gva_cons (gv_str1 (gv_len (gv_var rfl hW11)) (by simp; omega)) gva_nil))) (by simp)) gva_nil) (by simp) fun t8 xs5 H12 ht8 s12 hT12 hd12 => ?_⟩
    generalize ees5 : (_ :: _ : List PyData) = es5 at hd12
    have len5 : es5.length = 1 := by rw [← ees5]; rfl
    have lx5 := dpAll_length hd12
    refine ⟨t7, t8, _, xs5, rfl, rfl, s12 _ _ hT11, hT12, by rw [List.length_append, List.length_append, sizeLine_eq]; omega, fun t9 ht9 => ?_⟩
    have s13 : Same H12 (upd H12 t9 (.lst (((xsA ++ xs3) ++ xs4) ++ xs5))) := same_upd ht9
    refine q t9 _ _ _ upd_same (dpAll_app (DpAll.same (s12.trans s13) hd11) (DpAll.same s13 hd12)) (by simp only [List.length_append, lenA, len3, len4, len5]) (fun d hd' => ?_) (s07.trans ((s8.trans s9).trans ((s10.trans s11).trans (s12.trans s13))))
    rw [eA, ← ees1, ← ees2, ← ees3, ← ees4, ← ees5] at hd'
    simp only [List.mem_append, List.mem_cons, List.not_mem_nil, or_false] at hd'
    rcases hd' with ((((((h | h | h) | h | h) | h) | h | h) | h) | h)
    all_goals subst h
    all_goals refine ⟨_, _, _, rfl, no_map fun C' ok' e => ?_⟩
    · cases e
    · simp [chartD] at e
    · have n' := ok'.n60
      simp only [chartD, nD, PyData.tuple.injEq, List.cons.injEq, PyData.int.injEq] at e
      have := e.1
      omega
    · simp only [chartD, nD, PyData.tuple.injEq, List.cons.injEq, PyData.int.injEq] at e
      have := e.1
      omega
    · simp [chartD, nD] at e
    · simp [chartD] at e
    · simp [chartD] at e
    · simp [chartD, lotD] at e
    · simp [chartD, lotD] at e
    · simp only [chartD, lotD, PyData.tuple.injEq, List.cons.injEq] at e
      have m : PyData.int (-1) ∈ C'.wished.map nD := by
        rw [← e.2.2.1]
        simp
      obtain ⟨x, _, hx⟩ := List.mem_map.mp m
      unfold nD at hx
      injection hx with hx
      omega
end
end Ft

set_option Elab.async false
set_option linter.all false
set_option maxRecDepth 100000
set_option maxHeartbeats 8000000
namespace Ft
open PySem PySem.Spec PyProof.Rows L2
open RZ
theorem free_few {C : Chart} {F : List Nat} (h : freeD C (lotD F) = true) (n60 : C.n ≤ 60) : F.length ≤ 60 := by
  cases e : lotOk C.n (lotD F) with
  | false => rw [no_free e] at h; cases h
  | true =>
    obtain ⟨ws, e2, up, lt⟩ := lotOk_is e
    have := lotD_inj e2
    subst this
    have := up_len up lt
    omega
theorem fine_nil : Fine (.tuple []) := (sm_tup (k := 1) (fun _ h => by cases h) (by simp)).fine
def noes (n : Nat) : List PyData := List.replicate n (.bool false)
def noesV (n : Nat) : List V := List.replicate n (.bl false)
theorem noesV_more (n : Nat) : noesV n ++ [.bl false] = noesV (n + 1) := by
  unfold noesV
  rw [List.replicate_succ']
theorem noesV_app (m n : Nat) : noesV m ++ noesV n = noesV (m + n) := by
  unfold noesV
  rw [List.replicate_append_replicate]
theorem noesV_len (n : Nat) : (noesV n).length = n := List.length_replicate
theorem noes_dp {K : PySem.W.Frag} {H : Hp} : ∀ n, DpAll K H (noesV n) (noes n)
  | 0 => .nil
  | n + 1 => .cons (.bl false) (noes_dp n)
theorem noes_tame : ∀ n, tames (noes n) = true ∧ nodess (noes n) ≤ n ∧ PyData.depthAll (noes n) ≤ 0
  | 0 => ⟨rfl, by simp [noes, nodess], by simp [noes, PyData.depthAll]⟩
  | n + 1 => by
    obtain ⟨h1, h2, h3⟩ := noes_tame n
    refine ⟨?_, ?_, ?_⟩
    · show (tame (.bool false) && tames (noes n)) = true
      rw [h1]
      rfl
    · show nodess (.bool false :: noes n) ≤ n + 1
      simp only [nodess, nodes]
      omega
    · show PyData.depthAll (.bool false :: noes n) ≤ 0
      simp only [PyData.depthAll, PyData.depth]
      omega
theorem shows_noes {n : Nat} (h : n ≤ 1000) : Shows (.list (noes n)) := by
  obtain ⟨h1, h2, h3⟩ := noes_tame n
  refine shows_tame ?_ ?_ ?_
  · show tames (noes n) = true
    exact h1
  · simp only [nodes]
    omega
  · simp only [PyData.depth]
    omega
section
variable {P : Program} {w : World} {K : PySem.W.Frag} {mg : Str → Option Value} {base : Heap} {ca : Str → Addr}
/-! ### _law_no_arguments -/
def sp_law_no_arguments (K : PySem.W.Frag) : Sp := fun vs H Q _ => ∃ (c lo fr : Addr) (C : Chart) (S F : List Nat), vs = [.ref c, .ref lo, .ref fr] ∧ IsChart K H c C ∧ C.Ok ∧ C.roads.length < 64 ∧ SqT K H lo (S.map vN) ∧ lotOk C.n (lotD S) = true ∧ SqT K H fr (F.map vN) ∧ freeD C (lotD F) = true ∧ ∀ H', Same H H' → Q (.bl true) H'
theorem cal_law_no_arguments (T : Txt mg) (D : Def K mg "_law_no_arguments" s_law_no_arguments) (c_ways_right : Cal P w K mg base 7 "ways_right" (sp_ways_right K)) (c_law_way_no_charts : Cal P w K mg base 1 "_law_way_no_charts" (sp_law_way_no_charts K)) (c_law_way_no_lots : Cal P w K mg base 1 "_law_way_no_lots" (sp_law_way_no_lots K)) : CalG P w K mg base 8 "_law_no_arguments" (sp_law_no_arguments K) := by
  refine calG_of D sc_law_no_arguments (fun _ _ _ _ _ _ us hl => match us, hl with | [_, _, _], _ => rfl) (fun vs H Q E h => ?_) (fun f cdv A outer s H vs Q E hg hr h => ?_)
  · obtain ⟨c, lo, fr, C, S, F, rfl, _⟩ := h
    rfl
  · obtain ⟨c, lo, fr, C, S, F, rfl, hCC, ok, few, hS, okS, hF, okF, q⟩ := h
    have hU := hr.units
    have hG := hg
    have n60 := ok.n60
    refine ⟨_, (pss_cons (ps_setLc (i := 3) (own := [("row", 4)]) rfl sc_law_no_arguments.nd rfl rfl (sw_true rfl rfl rfl (by decide +kernel)) (show PI _ _ _ (iList K _) from pi_list (pe_c c_law_way_no_charts hr (by decide) (by rfl) (pa_cons (pv 0) pa_nil))) (blkOk_by (N := ["chart", "lot", "free", "found", "row", "thing", "p"]) (sc := L2.defScope s_law_no_arguments) (by decide +kernel)) (fun _ _ _ _ _ => (pg_name (i := 4) sc_law_no_arguments.nd rfl (Or.inl rfl))) (fun _ _ _ _ _ => pts_nil) (fun _ _ _ _ _ => (pe_c c_ways_right hr (by decide) (by rfl) (pa_cons (pe_ix (show IxR _ (rIxT K) from ix_tup) (pv 4) pe_int (fun _ _ => rfl)) (pa_cons (pv 1) (pa_cons (pv 2) (pa_cons (pe_tup pa_nil) pa_nil)))))))
      (pss_cons (ps_set (i := 3) sc_law_no_arguments.nd rfl (Or.inl rfl) (pe_op op_cat (pv 3) (pe_lc (own := [("thing", 5)]) rfl sc_law_no_arguments.nd (show PI _ _ _ (iList K _) from pi_list (pe_c c_law_way_no_lots hr (by decide) (by rfl) (pa_cons (pv 0) pa_nil))) (blkOk_by (N := ["chart", "lot", "free", "found", "row", "thing", "p"]) (sc := L2.defScope s_law_no_arguments) (by decide +kernel)) (fun _ _ _ _ _ => (pg_name (i := 5) sc_law_no_arguments.nd rfl (Or.inl rfl))) (fun _ _ _ _ _ => pts_nil) (fun _ _ _ _ _ => (pe_c c_ways_right hr (by decide) (by rfl) (pa_cons (pv 0) (pa_cons (pv 5) (pa_cons (pv 2) (pa_cons (pe_tup pa_nil) pa_nil)))))))))
      (pss_cons (ps_set (i := 3) sc_law_no_arguments.nd rfl (Or.inl rfl) (pe_op op_cat (pv 3) (pe_lc (own := [("thing", 5)]) rfl sc_law_no_arguments.nd (show PI _ _ _ (iList K _) from pi_list (pe_c c_law_way_no_lots hr (by decide) (by rfl) (pa_cons (pv 0) pa_nil))) (blkOk_by (N := ["chart", "lot", "free", "found", "row", "thing", "p"]) (sc := L2.defScope s_law_no_arguments) (by decide +kernel)) (fun _ _ _ _ _ => (pg_name (i := 5) sc_law_no_arguments.nd rfl (Or.inl rfl))) (fun _ _ _ _ _ => pts_nil) (fun _ _ _ _ _ => (pe_c c_ways_right hr (by decide) (by rfl) (pa_cons (pv 0) (pa_cons (pv 1) (pa_cons (pv 5) (pa_cons (pe_tup pa_nil) pa_nil)))))))))
      (pss_cons (ps_set (i := 3) sc_law_no_arguments.nd rfl (Or.inl rfl) (pe_op op_cat (pv 3) (pe_lc (own := [("p", 6)]) rfl sc_law_no_arguments.nd (show PI _ _ _ (iTup K _) from pi_tup (pe_ix (show IxR _ (rIxT K) from ix_tup) (pv 0) pe_int (fun _ _ => rfl))) (blkOk_by (N := ["chart", "lot", "free", "found", "row", "thing", "p"]) (sc := L2.defScope s_law_no_arguments) (by decide +kernel)) (fun _ _ _ _ _ => (pg_name (i := 6) sc_law_no_arguments.nd rfl (Or.inl rfl))) (fun _ _ _ _ _ => pts_nil) (fun _ _ _ _ _ => (pe_c c_ways_right hr (by decide) (by rfl) (pa_cons (pv 0) (pa_cons (pv 1) (pa_cons (pe_callTy (show CallR _ _ (rTupleOf K) from call_tupleOf) (by rfl) T.tuple (by decide +kernel) (pa_cons (pe_callB (show CallR _ _ (rSortedIT K) from cr_sortedIT) (by rfl) T.sorted (by decide +kernel) (pa_cons (pe_op (show OpR _ _ (rCatA K) from op_catA) (pv 2) (pe_tup (pa_cons (pv 6) pa_nil))) pa_nil)) pa_nil)) (pa_cons (pe_tup pa_nil) pa_nil)))))))))
      (pss_one (ps_ret (pe_cmpR op_eq (pe_callB (show CallR _ _ (rRepr K) from cr_repr hG hU) (by rfl) T.repr (by decide +kernel) (pa_cons (pv 3) pa_nil)) (pe_callB (show CallR _ _ (rRepr K) from cr_repr hG hU) (by rfl) T.repr (by decide +kernel) (pa_cons (pe_op op_rep (pe_lst (pa_cons pe_bl pa_nil)) (pe_callB (show CallR _ _ (rLenS K) from call_lenS) (by rfl) T.len (by decide +kernel) (pa_cons (pv 3) pa_nil))) pa_nil)) (nomark _)))))))), ?_⟩
    refine ⟨_, rfl, c, C, rfl, hCC, ok, fun t1 xs1 ds1 H1 hT1 hd1 l1 all1 s1 => ?_⟩
    refine ⟨t1, rfl, ⟨_, .inl (.inl hT1)⟩, fun g1 hg1 => ?_⟩
    have lx1 := dpAll_length hd1
    have keep1 : ∀ {H' : Hp}, Kp [g1] H1 H' → Same H1 H' := fun {H'} k b o e' => k b o (fun m => by rw [List.mem_singleton.mp m, hg1] at e'; cases e') e'
    refine lc_list (K := K) (xs := xs1) (fun j H' => Kp [g1] H1 H' ∧ H' g1 = some (.lst (noesV j))) ⟨(fun b o x e' => by rw [upd_ne (ne_of_none e' hg1)]; exact e'), upd_same⟩ (fun j H' _ ⟨k, _⟩ => .inl (.inl (keep1 k _ _ hT1))) ?_ ?_
    · rintro j x H2 hx ⟨k2, hG2⟩
      have jl := (List.getElem?_eq_some_iff.mp hx).1
      obtain ⟨d, hd, px⟩ := dpAll_get hd1 hx
      obtain ⟨dc, y, z, rfl, em⟩ := all1 d (List.mem_of_getElem? hd)
      obtain ⟨a, ys, rfl, ha, hys⟩ := dp_tup (Dp.same (keep1 k2) px)
      obtain ⟨v0, hv0, pv0⟩ := dpAll_getD hys (show _[0]? = some dc from rfl)
      have s02 := s1.trans (keep1 k2)
      refine ⟨rfl, ?_⟩
      refine ⟨_, rfl, _, _, _, _, rfl, rfl, ha, atI_nat (j := 0) hv0, _, rfl, _, rfl, Nat.zero_le _, fun e he => ?_⟩
      have s3 : Same H2 (upd H2 e (.tup [])) := same_upd he
      refine ⟨v0, .ref lo, .ref fr, .ref e, dc, lotD S, lotD F, .tuple [], rfl, Dp.same s3 pv0, dp_lot (Same.sqT (s02.trans s3) hS), dp_lot (Same.sqT (s02.trans s3) hF), .tup (.inl (.inl upd_same)) .nil, fine_nil, fun _ H4 s4 => ?_, fun C' ec ok' => ?_⟩
      · refine ⟨_, s4 _ _ (s3 _ _ hG2), by rw [noesV_len, sizeLine_eq]; omega, ?_, by rw [upd_same, noesV_more]⟩
        intro b o nb eb
        rw [upd_ne (fun z => nb (by rw [z]; simp))]
        exact s4 _ _ (s3 _ _ (k2 b o nb eb))
      · rw [ec, mapErr_chart ok'] at em
        cases em
    rintro H2 ⟨k2, hG2⟩
    have s12 := s1.trans (keep1 k2)
    have hC5 := hCC.same s12
    refine ⟨_, rfl, _, rfl, c, C, rfl, hC5, ok, fun t5 xs5 ds5 Ha5 hT5 hd5 l5 all5 sa5 => ?_⟩
    refine ⟨t5, rfl, ⟨_, .inl (.inl hT5)⟩, fun g5 hg5 => ?_⟩
    have lx5 := dpAll_length hd5
    have sA5 := s12.trans sa5
    have keep5 : ∀ {H' : Hp}, Kp [g5] Ha5 H' → Same Ha5 H' := fun {H'} k b o e' => k b o (fun m => by rw [List.mem_singleton.mp m, hg5] at e'; cases e') e'
    refine lc_list (K := K) (xs := xs5) (fun j H' => Kp [g5] Ha5 H' ∧ H' g5 = some (.lst (noesV j))) ⟨(fun b o x e' => by rw [upd_ne (ne_of_none e' hg5)]; exact e'), upd_same⟩ (fun j H' _ ⟨k, _⟩ => .inl (.inl (keep5 k _ _ hT5))) ?_ ?_
    · rintro j x H2 hx ⟨k2, hG2⟩
      have jl := (List.getElem?_eq_some_iff.mp hx).1
      obtain ⟨d, hd, px⟩ := dpAll_get hd5 hx
      have bad := all5 d (List.mem_of_getElem? hd)
      have s02 := sA5.trans (keep5 k2)
      refine ⟨rfl, ?_⟩
      refine ⟨_, rfl, _, rfl, _, rfl, Nat.zero_le _, fun e he => ?_⟩
      have s3 : Same H2 (upd H2 e (.tup [])) := same_upd he
      have s03 := s02.trans s3
      have fin : ∀ H4, Same (upd H2 e (.tup [])) H4 → ∃ acc, H4 g5 = some (.lst acc) ∧ acc.length < sizeLine ∧ (Kp [g5] Ha5 (upd H4 g5 (.lst (acc ++ [V.bl false]))) ∧ (upd H4 g5 (.lst (acc ++ [V.bl false]))) g5 = some (.lst (noesV (j + 1)))) := fun H4 s4 => by
        refine ⟨_, s4 _ _ (s3 _ _ hG2), by rw [noesV_len, sizeLine_eq]; omega, ?_, by rw [upd_same, noesV_more]⟩
        intro b o nb eb
        rw [upd_ne (fun z => nb (by rw [z]; simp))]
        exact s4 _ _ (s3 _ _ (k2 b o nb eb))
      have px3 := Dp.same ((keep5 k2).trans s3) px
      refine ⟨.ref c, x, .ref fr, .ref e, chartD C, d, lotD F, .tuple [], rfl, dp_chart (hCC.same s03), px3, dp_lot (Same.sqT s03 hF), .tup (.inl (.inl upd_same)) .nil, fine_nil, fun em => ?_, fun C' ec ok' => ?_⟩
      · rw [mapErr_chart ok] at em
        cases em
      · have := chartD_inj ec
        subst this
        exact ⟨few, fun _ H4 s4 => fin H4 s4, fun ef => (by rw [okF] at ef; cases ef), fun S' F' _ _ el _ => (by rw [bad] at el; cases el)⟩
    rintro Hb5 ⟨kb5, hGb5⟩
    have sB5 := sA5.trans (keep5 kb5)
    refine ⟨g1, g5, _, _, rfl, rfl, (sa5.trans (keep5 kb5)) _ _ hG2, hGb5, by rw [noesV_len, noesV_len, sizeLine_eq]; omega, fun f5 hf5 => ?_⟩
    have sC5 := sB5.trans (same_upd (o := .lst (noesV xs1.length ++ noesV xs5.length)) hf5)
    have hF5 : (upd Hb5 f5 (.lst (noesV xs1.length ++ noesV xs5.length))) f5 = some (.lst (noesV (xs1.length + xs5.length))) := by rw [upd_same, noesV_app]
    generalize upd Hb5 f5 (.lst (noesV xs1.length ++ noesV xs5.length)) = H5 at sC5 hF5
    have hC6 := hCC.same sC5
    refine ⟨_, rfl, _, rfl, c, C, rfl, hC6, ok, fun t6 xs6 ds6 Ha6 hT6 hd6 l6 all6 sa6 => ?_⟩
    refine ⟨t6, rfl, ⟨_, .inl (.inl hT6)⟩, fun g6 hg6 => ?_⟩
    have lx6 := dpAll_length hd6
    have sA6 := sC5.trans sa6
    have keep6 : ∀ {H' : Hp}, Kp [g6] Ha6 H' → Same Ha6 H' := fun {H'} k b o e' => k b o (fun m => by rw [List.mem_singleton.mp m, hg6] at e'; cases e') e'
    refine lc_list (K := K) (xs := xs6) (fun j H' => Kp [g6] Ha6 H' ∧ H' g6 = some (.lst (noesV j))) ⟨(fun b o x e' => by rw [upd_ne (ne_of_none e' hg6)]; exact e'), upd_same⟩ (fun j H' _ ⟨k, _⟩ => .inl (.inl (keep6 k _ _ hT6))) ?_ ?_
    · rintro j x H2 hx ⟨k2, hG2⟩
      have jl := (List.getElem?_eq_some_iff.mp hx).1
      obtain ⟨d, hd, px⟩ := dpAll_get hd6 hx
      have bad := all6 d (List.mem_of_getElem? hd)
      have s02 := sA6.trans (keep6 k2)
      refine ⟨rfl, ?_⟩
      refine ⟨_, rfl, _, rfl, _, rfl, Nat.zero_le _, fun e he => ?_⟩
      have s3 : Same H2 (upd H2 e (.tup [])) := same_upd he
      have s03 := s02.trans s3
      have fin : ∀ H4, Same (upd H2 e (.tup [])) H4 → ∃ acc, H4 g6 = some (.lst acc) ∧ acc.length < sizeLine ∧ (Kp [g6] Ha6 (upd H4 g6 (.lst (acc ++ [V.bl false]))) ∧ (upd H4 g6 (.lst (acc ++ [V.bl false]))) g6 = some (.lst (noesV (j + 1)))) := fun H4 s4 => by
        refine ⟨_, s4 _ _ (s3 _ _ hG2), by rw [noesV_len, sizeLine_eq]; omega, ?_, by rw [upd_same, noesV_more]⟩
        intro b o nb eb
        rw [upd_ne (fun z => nb (by rw [z]; simp))]
        exact s4 _ _ (s3 _ _ (k2 b o nb eb))
      have px3 := Dp.same ((keep6 k2).trans s3) px
      refine ⟨.ref c, .ref lo, x, .ref e, chartD C, lotD S, d, .tuple [], rfl, dp_chart (hCC.same s03), dp_lot (Same.sqT s03 hS), px3, .tup (.inl (.inl upd_same)) .nil, fine_nil, fun em => ?_, fun C' ec ok' => ?_⟩
      · rw [mapErr_chart ok] at em
        cases em
      · have := chartD_inj ec
        subst this
        exact ⟨few, fun el => (by rw [okS] at el; cases el), fun _ H4 s4 => fin H4 s4, fun S' F' _ _ _ ef => (by rw [no_free bad] at ef; cases ef)⟩
    rintro Hb6 ⟨kb6, hGb6⟩
    have sB6 := sA6.trans (keep6 kb6)
    refine ⟨f5, g6, _, _, rfl, rfl, (sa6.trans (keep6 kb6)) _ _ hF5, hGb6, by rw [noesV_len, noesV_len, sizeLine_eq]; omega, fun f6 hf6 => ?_⟩
    have sC6 := sB6.trans (same_upd (o := .lst (noesV (xs1.length + xs5.length) ++ noesV xs6.length)) hf6)
    have hF6 : (upd Hb6 f6 (.lst (noesV (xs1.length + xs5.length) ++ noesV xs6.length))) f6 = some (.lst (noesV ((xs1.length + xs5.length) + xs6.length))) := by rw [upd_same, noesV_app]
    generalize upd Hb6 f6 (.lst (noesV (xs1.length + xs5.length) ++ noesV xs6.length)) = H6 at sC6 hF6
    have lF : F.length ≤ 60 := free_few okF n60
    obtain ⟨r, wd, ts, hC7⟩ := hCC.same sC6
    have lw := up_len ok.upW ok.inW
    refine ⟨_, rfl, _, rfl, _, _, _, _, rfl, rfl, hC7.top, rfl, wd, rfl, ⟨_, hC7.wis⟩, fun g7 hg7 => ?_⟩
    have keep7 : ∀ {H' : Hp}, Kp [g7] H6 H' → Same H6 H' := fun {H'} k b o e' => k b o (fun m => by rw [List.mem_singleton.mp m, hg7] at e'; cases e') e'
    refine lc_tup (K := K) (a := wd) (xs := C.wished.map vN) (fun j H' => Kp [g7] H6 H' ∧ H' g7 = some (.lst (noesV j))) ⟨(fun b o x e' => by rw [upd_ne (ne_of_none e' hg7)]; exact e'), upd_same⟩ (fun j H' _ ⟨k, _⟩ => Same.sqT (keep7 k) hC7.wis) ?_ ?_
    · rintro j x H2 hx ⟨k2, hG2⟩
      obtain ⟨y, hy, rfl⟩ := get_map hx
      have jl := (List.getElem?_eq_some_iff.mp hy).1
      have yw := List.mem_of_getElem? hy
      have s02 := sC6.trans (keep7 k2)
      refine ⟨rfl, ?_⟩
      refine ⟨_, rfl, _, rfl, ?_⟩
      show tOp (rCatA K) (tVar 2) (tTup (tCons (tVar 6) tNil)) _ H2 _
      refine Gv.go (K := K) (gv_cat (gv_var rfl (show Dp K H2 (.ref fr) (.tuple (F.map nD)) from dp_lot (Same.sqT s02 hF))) (gv_tup (gva_cons (gv_var rfl (dp_nat y)) gva_nil) (by simp)) (by simp; omega)) fun v H3 s3 hv => ?_
      have eq : (.tuple (F.map nD ++ [nD y]) : PyData) = lotD (F ++ [y]) := by
        unfold lotD
        rw [List.map_append]
        rfl
      rw [eq] at hv
      obtain ⟨a, rfl, ha⟩ := lot_dp hv
      rw [vN_map] at ha
      refine ⟨a, _, rfl, ha, fun ns' pq pm _ hpq => ?_⟩
      obtain ⟨m, em⟩ : ∃ m, ns' = iN m := natZ fun x hx => by
        obtain ⟨z, _, rfl⟩ := List.mem_map.mp (pm.mem_iff.mp hx)
        omega
      subst em
      refine ⟨pq, _, rfl, .inl ⟨.inl (.inl upd_same), fun tp htp => ?_⟩⟩
      refine ⟨Nat.zero_le _, fun e he => ?_⟩
      have sP : Same H3 (upd H3 pq (.lst ((iN m).map V.int))) := same_upd hpq
      have sT := same_upd (o := .tup ((iN m).map V.int)) htp
      have sE := same_upd (o := .tup []) he
      have hTp := sE _ _ (show (upd (upd H3 pq (.lst ((iN m).map V.int))) tp (.tup ((iN m).map V.int))) tp = some (.tup ((iN m).map V.int)) from upd_same)
      have hE4 : (upd (upd (upd H3 pq (.lst ((iN m).map V.int))) tp (.tup ((iN m).map V.int))) e (.tup [])) e = some (.tup []) := upd_same
      have s4 := ((s3.trans sP).trans sT).trans sE
      generalize upd (upd (upd H3 pq (.lst ((iN m).map V.int))) tp (.tup ((iN m).map V.int))) e (.tup []) = H4 at s4 hTp hE4
      have s04 := s02.trans s4
      have hm : y ∈ m := by
        have h1 : (y : Int) ∈ iN m := pm.mem_iff.mpr (iN_mem.mpr (by simp))
        exact iN_mem.mp h1
      have noF : freeD C (lotD m) = false := by
        cases ef : freeD C (lotD m) with
        | false => rfl
        | true => exact absurd yw (free_off ef y hm)
      refine ⟨.ref c, .ref lo, .ref tp, .ref e, chartD C, lotD S, lotD m, .tuple [], rfl, dp_chart (hCC.same s04), dp_lot (Same.sqT s04 hS), dp_lot (.inl (.inl (by rw [vN_map]; exact hTp))), .tup (.inl (.inl hE4)) .nil, fine_nil, fun em => ?_, fun C' ec ok' => ?_⟩
      · rw [mapErr_chart ok] at em
        cases em
      · have := chartD_inj ec
        subst this
        refine ⟨few, fun el => (by rw [okS] at el; cases el), fun _ H5 s5 => ?_, fun S' F' _ _ _ ef => (by rw [noF] at ef; cases ef)⟩
        refine ⟨_, s5 _ _ (s4 _ _ hG2), by rw [noesV_len, sizeLine_eq]; omega, ?_, by rw [upd_same, noesV_more]⟩
        intro b o nb eb
        rw [upd_ne (fun z => nb (by rw [z]; simp))]
        exact s5 _ _ (s4 _ _ (k2 b o nb eb))
    rintro H2 ⟨k2, hG2⟩
    rw [List.length_map] at hG2
    have s7 := keep7 k2
    refine ⟨f6, g7, _, _, rfl, rfl, s7 _ _ hF6, hG2, by rw [noesV_len, noesV_len, sizeLine_eq]; omega, fun f7 hf7 => ?_⟩
    have s8 := (sC6.trans s7).trans (same_upd (o := .lst (noesV (xs1.length + xs5.length + xs6.length) ++ noesV C.wished.length)) hf7)
    have hF7 : (upd H2 f7 (.lst (noesV (xs1.length + xs5.length + xs6.length) ++ noesV C.wished.length))) f7 = some (.lst (noesV (xs1.length + xs5.length + xs6.length + C.wished.length))) := by rw [upd_same, noesV_app]
    generalize upd H2 f7 (.lst (noesV (xs1.length + xs5.length + xs6.length) ++ noesV C.wished.length)) = H7 at s8 hF7
    obtain ⟨N, eN⟩ : ∃ N, xs1.length + xs5.length + xs6.length + C.wished.length = N := ⟨_, rfl⟩
    rw [eN] at hF7
    have N1000 : N ≤ 1000 := by omega
    refine ⟨_, rfl, _, .list (noes N), rfl, .lst (.inl (.inl hF7)) (noes_dp N), shows_noes N1000, ?_⟩
    refine ⟨by show 1 ≤ sizeLine; decide, fun z hz => ?_⟩
    have s9 : Same H7 (upd H7 z (.lst [V.bl false])) := same_upd hz
    have hZ9 : (upd H7 z (.lst [V.bl false])) z = some (.lst [V.bl false]) := upd_same
    generalize upd H7 z (.lst [V.bl false]) = H9 at s9 hZ9
    refine ⟨_, rfl, _, _, rfl, .inl (.inl (.inl (s9 _ _ hF7))), ?_⟩
    refine ⟨z, ((noesV N).length : Int), _, rfl, rfl, hZ9, by omega, by rw [noesV_len]; omega, by rw [noesV_len, sizeLine_eq]; simp; omega, fun u hu => ?_⟩
    have s10 : Same H9 (upd H9 u (.lst (List.replicate ((noesV N).length : Int).toNat [V.bl false]).flatten)) := same_upd hu
    have hU10 : (upd H9 u (.lst (List.replicate ((noesV N).length : Int).toNat [V.bl false]).flatten)) u = some (.lst (noesV N)) := by
      rw [upd_same, List.flatten_replicate_singleton, noesV_len]
      rfl
    generalize upd H9 u (.lst (List.replicate ((noesV N).length : Int).toNat [V.bl false]).flatten) = H10 at s10 hU10
    refine ⟨_, .list (noes N), rfl, .lst (.inl (.inl hU10)) (noes_dp N), shows_noes N1000, ?_⟩
    refine ⟨rfl, ?_⟩
    have z9 := q _ ((s8.trans s9).trans s10)
    simpa using z9
end
end Ft

set_option Elab.async false
set_option linter.all false
set_option maxRecDepth 100000
set_option maxHeartbeats 8000000
namespace Ft
open PySem PySem.Spec PyProof.Rows L2
/-- the roads of a planted map, before its places are named anew -/
structure Plant (rg wy n : Nat) (prs : List (Nat × Nat)) : Prop where
  kind : ∀ q ∈ prs, (q.1 < rg ∧ q.2 = (q.1 + 1) % rg) ∨ (q.1 < rg ∧ rg ≤ q.2 ∧ q.2 < rg + wy) ∨ (rg ≤ q.1 ∧ q.1 < rg + wy ∧ rg + wy ≤ q.2 ∧ q.2 < n)
  ring : ∀ a, a < rg → (a, (a + 1) % rg) ∈ prs
/-- what a planted map is -/
structure Planted (C : Chart) (rg wy : Nat) (ring wts : List Nat) : Prop where
  to : ∃ (n : Nat) (prs : List (Nat × Nat)) (ws perm : List Nat), perm.Perm (List.range n) ∧ rg + wy ≤ n ∧ Plant rg wy n prs ∧ (∀ a, a ∈ ws ↔ rg + wy ≤ a ∧ a < n) ∧ Named n prs ws perm C ∧ ring.Pairwise (· < ·) ∧ (∀ x, x ∈ ring ↔ ∃ a, a < rg ∧ x = nm perm a) ∧ wts = (List.range wy).map fun k => nm perm (rg + k)
def LotsL (H : Hp) (as : List Addr) (ls : List (List Nat)) : Prop := Paired (fun (a : Addr) (l : List Nat) => H a = some (.lst (l.map vN))) as ls
theorem LotsL.imp {H H' : Hp} : ∀ {as : List Addr} {ls : List (List Nat)}, (∀ a ∈ as, ∀ o, H a = some o → H' a = some o) → LotsL H as ls → LotsL H' as ls
  | _, _, _, .nil => .nil
  | a :: as, _ :: _, h, .cons r t => .cons (h a List.mem_cons_self _ r) (LotsL.imp (fun b hb => h b (List.mem_cons_of_mem _ hb)) t)
theorem LotsL.has {H : Hp} : ∀ {as : List Addr} {ls : List (List Nat)}, LotsL H as ls → ∀ a ∈ as, ∃ l : List Nat, l ∈ ls ∧ H a = some (.lst (l.map vN))
  | _, _, .nil, _, m => nomatch m
  | a :: as, l :: _, .cons r t, b, m => by
    rcases List.mem_cons.mp m with e | m
    · exact ⟨l, List.mem_cons_self, e ▸ r⟩
    · obtain ⟨l', h1, h2⟩ := LotsL.has t b m
      exact ⟨l', List.mem_cons_of_mem _ h1, h2⟩
/-- what is told of a planted map's ways out -/
structure Told (H : Hp) (C : Chart) (p l tl : Addr) (wy : Nat) (ring wts : List Nat) (tls : List Addr) (tll : List (List Nat)) : Prop where
  at_ : H tl = some (.lst (tls.map V.ref))
  lots : LotsL H tls tll
  len : tll.length = wy
  off : tl ∉ [p, l]
  offs : ∀ t ∈ tls, t ∉ [p, l]
  mem : ∀ m ∈ tll, 0 < m.length ∧ m.length ≤ 30 ∧ ∀ x ∈ m, x < C.n
  into : ∀ x ∈ wts, ∃ a, (a, x) ∈ C.roads
  few : C.roads.length < 64
  wlt : ∀ x ∈ wts, x < C.n
  wun : ∀ x ∈ wts, x ∉ C.wished
  wnd : wts.Nodup
  rlt : ∀ x ∈ ring, x < C.n
  rup : ring.Pairwise (· < ·)
theorem PoolAt.keep {ex : List Addr} {H H' : Hp} {p l : Addr} (k : Kp ex H H') (n1 : p ∉ ex) (n2 : l ∉ ex) (h : PoolAt H p l) : PoolAt H' p l := by
  obtain ⟨a, b, cs, h1, h2, h3⟩ := h
  exact ⟨a, b, cs, k _ _ n1 h1, k _ _ n2 h2, h3⟩
theorem off2 {p l d z : Addr} (h1 : d ∉ [p, l]) (h2 : z ∉ [p, l]) : p ∉ [d, z] ∧ l ∉ [d, z] := by
  simp only [List.mem_cons, List.not_mem_nil, or_false, not_or] at h1 h2 ⊢
  exact ⟨⟨fun e => h1.1 e.symm, fun e => h2.1 e.symm⟩, ⟨fun e => h1.2 e.symm, fun e => h2.2 e.symm⟩⟩
theorem kp_new {ex0 ex : List Addr} {H H1 H2 : Hp} (k : Kp ex0 H H1) (he : ∀ e ∈ ex, H e = none) (k2 : Kp ex H1 H2) : Kp ex0 H H2 := fun b o nb eb => k2 b o (fun m => by rw [he b m] at eb; cases eb) (k b o nb eb)
theorem nm_inj {perm : List Nat} {n : Nat} (pm : perm.Perm (List.range n)) {a b : Nat} (ha : a < n) (hb : b < n) (e : nm perm a = nm perm b) : a = b := by
  have len : perm.length = n := by rw [pm.length_eq, List.length_range]
  have nd : perm.Nodup := pm.nodup_iff.mpr List.nodup_range
  refine (List.getElem?_inj (by rw [len]; exact ha) nd).mp ?_
  rw [nm_get (by rw [len]; exact ha), nm_get (by rw [len]; exact hb), e]
section
variable {P : Program} {w : World} {K : PySem.W.Frag} {mg : Str → Option Value} {base : Heap} {t1 t2 : Tok}
/-! ### _law_map_planted -/
def sp_law_map_planted (K : PySem.W.Frag) : Sp := fun vs H Q _ => ∃ (p l : Addr) (rg wy bh : Nat), vs = [.ref p, vN rg, vN wy, vN bh] ∧ PoolAt H p l ∧ 0 < rg ∧ rg ≤ 20 ∧ wy ≤ 10 ∧ 0 < bh ∧ bh ≤ 3 ∧
  ∀ (q c ri wa tl : Addr) (C : Chart) (ring wts : List Nat) (tls : List Addr) (tll : List (List Nat)) (H' : Hp), H' q = some (.lst [.ref c, .ref ri, .ref wa, .ref tl]) → IsChart K H' c C → C.Ok → H' ri = some (.lst (ring.map vN)) → H' wa = some (.lst (wts.map vN)) → ring.length = rg → wts.length = wy → ri ∉ [p, l] → wa ∉ [p, l] → Planted C rg wy ring wts → Told H' C p l tl wy ring wts tls tll → PoolAt H' p l → Kp [p, l] H H' → Q (.ref q) H'
theorem cal_law_map_planted (T : Txt mg) (D : Def K mg "_law_map_planted" s_law_map_planted) (c_law_draw : Cal P w K mg base 2 "_law_draw" sp_law_draw) (c_law_map_named : Cal P w K mg base 4 "_law_map_named" (sp_law_map_named K)) : Cal P w K mg base 5 "_law_map_planted" (sp_law_map_planted K) := by
  refine cal_of D sc_law_map_planted (fun _ _ _ _ _ _ us hl => match us, hl with | [_, _, _, _], _ => rfl) (fun vs H Q E h => ?_) (fun f cdv A outer s H vs Q E hr h => ?_)
  · obtain ⟨p, l, rg, wy, bh, rfl, _⟩ := h
    rfl
  · obtain ⟨p, l, rg, wy, bh, rfl, hP, rg0, rg24, wy3, bh0, bh8, q⟩ := h
    have hU := hr.units
    refine ⟨_, (pss_cons (ps_par3 (i := 4) (j := 5) (l := 6) (by rfl) sc_law_map_planted.nd rfl rfl rfl (by decide) (by decide) (by decide) rfl rfl rfl (pa_cons (pe_op op_add (pv 1) (pv 2)) (pa_cons (pe_lc (own := [("a", 14)]) rfl sc_law_map_planted.nd (pi_range1 (by rfl) T.range (pa_cons (pv 1) pa_nil)) (blkOk_by (N := ["pool", "ring", "ways", "behind", "places", "roads", "last", "way", "turn", "wished", "lot", "chart", "names", "told", "a"]) (sc := L2.defScope s_law_map_planted) (by decide +kernel)) (fun _ _ _ _ _ => (pg_name (i := 14) sc_law_map_planted.nd rfl (Or.inl rfl))) (fun _ _ _ _ _ => pts_nil) (fun _ _ _ _ _ => (pe_tup (pa_cons (pv 14) (pa_cons (pe_op op_mod (pe_callTy call_int1 (by rfl) T.int (by decide +kernel) (pa_cons (pe_op op_add (pv 14) pe_int) pa_nil)) (pv 1)) pa_nil))))) (pa_cons (pe_lst pa_nil) pa_nil))) (by rfl))
      (pss_cons (ps_for PassesOwn.never rfl (pi_range1 (by rfl) T.range (pa_cons (pv 2) pa_nil)) (pg_name (i := 7) sc_law_map_planted.nd rfl (Or.inl rfl)) (pss_cons (ps_expr (pe_bm PySem.F.plainAttrs_list PySem.F.slot_list_append PySem.F.type_list_append mt_append (pv 5) (pa_cons (pe_tup (pa_cons (pe_c c_law_draw hr (by decide) (by rfl) (pa_cons (pv 0) (pa_cons (pv 1) pa_nil))) (pa_cons (pe_op op_add (pv 1) (pv 7)) pa_nil))) pa_nil)))
        (pss_cons (ps_expr (pe_bm PySem.F.plainAttrs_list PySem.F.slot_list_append PySem.F.type_list_append mt_append (pv 6) (pa_cons (pe_lst pa_nil) pa_nil)))
        (pss_one (ps_for PassesOwn.never rfl (pi_range1 (by rfl) T.range (pa_cons (pe_op op_add pe_int (pe_c c_law_draw hr (by decide) (by rfl) (pa_cons (pv 0) (pa_cons (pv 3) pa_nil)))) pa_nil)) (pg_name (i := 8) sc_law_map_planted.nd rfl (Or.inl rfl)) (pss_cons (ps_expr (pe_bm PySem.F.plainAttrs_list PySem.F.slot_list_append PySem.F.type_list_append mt_append (pv 5) (pa_cons (pe_tup (pa_cons (pe_op op_add (pv 1) (pv 7)) (pa_cons (pv 4) pa_nil))) pa_nil)))
          (pss_cons (ps_expr (pe_bm PySem.F.plainAttrs_list PySem.F.slot_list_append PySem.F.type_list_append mt_append (pe_ix (show IxR _ (rIxL K) from ix_list) (pv 6) (pv 7) (fun _ _ => rfl)) (pa_cons (pv 4) pa_nil)))
          (pss_one (ps_set (i := 4) sc_law_map_planted.nd rfl (Or.inl rfl) (pe_op op_add (pv 4) pe_int))))))))))
      (pss_cons (ps_set (i := 9) sc_law_map_planted.nd rfl (Or.inl rfl) (pe_lst pa_nil))
      (pss_cons (ps_for PassesOwn.never rfl (show PI _ _ _ (iList K _) from pi_list (pv 6)) (pg_name (i := 10) sc_law_map_planted.nd rfl (Or.inl rfl)) (pss_one (ps_set (i := 9) sc_law_map_planted.nd rfl (Or.inl rfl) (pe_op op_cat (pv 9) (pv 10)))))
      (pss_cons (ps_asg (pe_c c_law_map_named hr (by decide) (by rfl) (pa_cons (pv 0) (pa_cons (pv 4) (pa_cons (pv 5) (pa_cons (pv 9) pa_nil))))) (show PG _ _ (gLst K 2 _) from pg_lst (by rfl) (pgs_cons (pg_name (i := 11) sc_law_map_planted.nd rfl (Or.inl rfl)) (pgs_cons (pg_name (i := 12) sc_law_map_planted.nd rfl (Or.inr rfl)) pgs_nil))))
      (pss_cons (ps_setLc (i := 13) (own := [("lot", 10)]) rfl sc_law_map_planted.nd rfl rfl (sw_true rfl rfl rfl (by decide +kernel)) (show PI _ _ _ (iList K _) from pi_list (pv 6)) (blkOk_by (N := ["pool", "ring", "ways", "behind", "places", "roads", "last", "way", "turn", "wished", "lot", "chart", "names", "told", "a"]) (sc := L2.defScope s_law_map_planted) (by decide +kernel)) (fun _ _ _ _ _ => (pg_name (i := 10) sc_law_map_planted.nd rfl (Or.inl rfl))) (fun _ _ _ _ _ => pts_nil) (fun _ _ _ _ _ => (pe_callB (show CallR _ _ (rSortedI K) from cr_sortedI) (by rfl) T.sorted (by decide +kernel) (pa_cons (pe_lc (own := [("a", 14)]) rfl sc_law_map_planted.nd (show PI _ _ _ (iList K _) from pi_list (pv 10)) (blkIn (N := ["pool", "ring", "ways", "behind", "places", "roads", "last", "way", "turn", "wished", "lot", "chart", "names", "told", "a"]) (sc := L2.defScope s_law_map_planted) rfl (by decide +kernel)) (fun _ _ _ _ _ => (pg_name (i := 14) sc_law_map_planted.nd rfl (Or.inl rfl))) (fun _ _ _ _ _ => pts_nil) (fun _ _ _ _ _ => (pe_ix (show IxR _ (rIxL K) from ix_list) (pv 12) (pv 14) (fun _ _ => rfl)))) pa_nil))))
      (pss_one (ps_ret (pe_lst (pa_cons (pv 11) (pa_cons (pe_callB (show CallR _ _ (rSortedI K) from cr_sortedI) (by rfl) T.sorted (by decide +kernel) (pa_cons (pe_lc (own := [("a", 14)]) rfl sc_law_map_planted.nd (pi_range1 (by rfl) T.range (pa_cons (pv 1) pa_nil)) (blkOk_by (N := ["pool", "ring", "ways", "behind", "places", "roads", "last", "way", "turn", "wished", "lot", "chart", "names", "told", "a"]) (sc := L2.defScope s_law_map_planted) (by decide +kernel)) (fun _ _ _ _ _ => (pg_name (i := 14) sc_law_map_planted.nd rfl (Or.inl rfl))) (fun _ _ _ _ _ => pts_nil) (fun _ _ _ _ _ => (pe_ix (show IxR _ (rIxL K) from ix_list) (pv 12) (pv 14) (fun _ _ => rfl)))) pa_nil)) (pa_cons (pe_lc (own := [("way", 7)]) rfl sc_law_map_planted.nd (pi_range1 (by rfl) T.range (pa_cons (pv 2) pa_nil)) (blkOk_by (N := ["pool", "ring", "ways", "behind", "places", "roads", "last", "way", "turn", "wished", "lot", "chart", "names", "told", "a"]) (sc := L2.defScope s_law_map_planted) (by decide +kernel)) (fun _ _ _ _ _ => (pg_name (i := 7) sc_law_map_planted.nd rfl (Or.inl rfl))) (fun _ _ _ _ _ => pts_nil) (fun _ _ _ _ _ => (pe_ix (show IxR _ (rIxL K) from ix_list) (pv 12) (pe_op op_add (pv 1) (pv 7)) (fun _ _ => rfl)))) (pa_cons (pv 13) pa_nil))))))))))))), ?_⟩
    have s1000 : (1000 : Nat) ≤ sizeLine := by decide
    refine ⟨_, rfl, _, rfl, _, _, rfl, rfl, _, rfl, _, rfl, by omega, by omega, fun d hd => ?_⟩
    have dpl : d ∉ [p, l] := hP.free hd
    refine lc_range (lo := 0) (n := rg) (fun i H' => ∃ L : List (Addr × (Nat × Nat)), Kp [d] H H' ∧ H' d = some (.lst (L.map fun r => V.ref r.1)) ∧ TupsAt H' L ∧ L.map (·.2) = (List.range i).map fun a => (a, (a + 1) % rg))
      ⟨[], (fun b o x e' => by rw [upd_ne (ne_of_none e' hd)]; exact e'), upd_same, (fun _ h => nomatch h), rfl⟩ ?_ ?_
    · rintro i H1 hi ⟨L, k1, hD, hL, eL⟩
      have lenL : L.length = i := by
        have := congrArg List.length eL
        rwa [List.length_map, List.length_map, List.length_range] at this
      have e0 : (0 : Int) + (i : Nat) = (i : Nat) := by omega
      refine ⟨rfl, ?_⟩
      rw [e0]
      have r0 : (0 : Int) < (rg : Int) := by omega
      refine ⟨_, rfl, _, rfl, _, _, rfl, rfl, .inl ⟨_, rfl, _, rfl, _, _, rfl, rfl, r0, by show 2 ≤ sizeLine; decide, fun t ht => ?_⟩⟩
      have em : V.int (((i : Int) + 1) % (rg : Int)) = vN ((i + 1) % rg) := by
        unfold vN
        congr 1
      have hT : (upd H1 t (.tup [vN i, V.int (((i : Int) + 1) % (rg : Int))])) t = some (.tup [vN i, vN ((i + 1) % rg)]) := by rw [upd_same, em]
      have s2 : Same H1 (upd H1 t (.tup [vN i, V.int (((i : Int) + 1) % (rg : Int))])) := same_upd ht
      have hD2 := s2 _ _ hD
      refine ⟨_, hD2, by rw [List.length_map]; exact small1000 (by omega), L ++ [(t, (i, (i + 1) % rg))], ?_, by rw [upd_same, List.map_append]; rfl, ((hL.same s2).add hT).set hD2, by rw [List.map_append, eL, List.range_succ, List.map_append]; rfl⟩
      intro b o nb eb
      rw [upd_ne (fun z => nb (by rw [z]; simp))]
      exact s2 _ _ (k1 b o nb eb)
    rintro H1 ⟨L0, k1, hD1, hL1, eL0⟩
    have s1 : Same H H1 := fun b o eb => k1 b o (fun m => by rw [List.mem_singleton.mp m, hd] at eb; cases eb) eb
    refine ⟨Nat.zero_le _, fun g hg => ?_⟩
    have s2 : Same H1 (upd H1 g (.lst [])) := same_upd hg
    have hG2 : (upd H1 g (.lst [])) g = some (.lst []) := upd_same
    have hg0 : H g = none := s1.free hg
    have ndg : d ≠ g := ne_of_none hD1 hg
    have hP2 := (hP.same s1).same s2
    have k2 : Kp [p, l] H (upd H1 g (.lst [])) := Same.kp (s1.trans s2)
    have hD2 := s2 _ _ hD1
    have hL2 := hL1.same s2
    have gpl : g ∉ [p, l] := (hP.same s1).free hg
    generalize upd H1 g (.lst []) = H2 at s2 hG2 hP2 k2 hD2 hL2
    refine ⟨_, _, _, rfl, ?_⟩
    have kset : ∀ {H' : Hp} {o : HO} {e : Addr}, H e = none → Kp [p, l] H H' → Kp [p, l] H (upd H' e o) := fun {H' o e} he k b x nb eb => by
      rw [upd_ne (ne_of_none eb he)]
      exact k b x nb eb
    refine ⟨_, rfl, _, rfl, by omega, by omega, for_range (lo := 0) (n := wy) (fun i σ H' => ∃ (n : Nat) (L : List (Addr × (Nat × Nat))) (as : List Addr) (ls : List (List Nat)) (v7 v8 : Option V), σ = [some (.ref p), some (vN rg), some (vN wy), some (vN bh), some (vN n), some (.ref d), some (.ref g), v7, v8, none, none, none, none, none, none] ∧ PoolAt H' p l ∧ Kp [p, l] H H' ∧
        H' d = some (.lst (L.map fun r => V.ref r.1)) ∧ TupsAt H' L ∧ H' g = some (.lst (as.map V.ref)) ∧ LotsL H' as ls ∧ (∀ a ∈ as, a ≠ d ∧ a ≠ g ∧ a ∉ [p, l]) ∧ ls.flatten = List.range' (rg + wy) (n - (rg + wy)) ∧ rg + wy ≤ n ∧ n ≤ rg + wy + bh * i ∧ L.length ≤ rg + (bh + 1) * i ∧ as.length = i ∧ Plant rg wy n (L.map (·.2)) ∧ (∀ m ∈ ls, 0 < m.length) ∧ ∀ k, k < i → ∃ r, r < rg ∧ (r, rg + k) ∈ L.map (·.2))
      ?_ ?_ ?_⟩
    · refine ⟨rg + wy, L0, [], [], _, _, rfl, hP2, k2, hD2, hL2, hG2, .nil, (fun _ h => nomatch h), ?_, Nat.le_refl _, Nat.le_add_right _ _, ?_, rfl, ?_, (fun _ h => nomatch h), fun k hk => absurd hk (Nat.not_lt_zero k)⟩
      · rw [Nat.sub_self]
        rfl
      · have := congrArg List.length eL0
        rw [List.length_map, List.length_map, List.length_range] at this
        omega
      · rw [eL0]
        refine ⟨fun q hq => ?_, fun a ha => List.mem_map.mpr ⟨a, List.mem_range.mpr ha, rfl⟩⟩
        obtain ⟨a, ha, rfl⟩ := List.mem_map.mp hq
        exact .inl ⟨List.mem_range.mp ha, rfl⟩
    · rintro i σ H3 hi ⟨n, L, as, ls, v7, v8, rfl, hP3, k3, hD3, hL3, hG3, hLs3, far, eF, n0, n1, eL, eA, plt, pos, inw⟩
      have e0 : (0 : Int) + (i : Nat) = (i : Nat) := by omega
      rw [e0]
      have il : i < wy := hi
      have bi : bh * i ≤ 30 - bh := by
        have : bh * (i + 1) ≤ 3 * 10 := Nat.mul_le_mul bh8 (by omega)
        rw [Nat.mul_succ] at this
        omega
      have bi2 : (bh + 1) * i + (bh + 1) ≤ 40 := by
        have : (bh + 1) * (i + 1) ≤ 4 * 10 := Nat.mul_le_mul (by omega) (by omega)
        rw [Nat.mul_succ] at this
        omega
      refine ⟨_, rfl, .inl ⟨rfl, _, .inl (.inl hD3)⟩, _, rfl, _, rfl, p, l, rg, rfl, hP3, by omega, by omega, fun r H4 hr4 hP4 k4 => ?_⟩
      refine ⟨_, rfl, _, rfl, _, _, rfl, rfl, by show 2 ≤ sizeLine; decide, fun t ht => ?_⟩
      have s5 : Same H4 (upd H4 t (.tup [vN r, V.int ((rg : Int) + (i : Int))])) := same_upd ht
      have hT5 : (upd H4 t (.tup [vN r, V.int ((rg : Int) + (i : Int))])) t = some (.tup [vN r, vN (rg + i)]) := upd_same
      have hD4 := k4 _ _ dpl hD3
      have hG4 := k4 _ _ gpl hG3
      have hL4 : TupsAt H4 L := hL3.keep k4 hP3.lists
      have hLs4 : LotsL H4 as ls := hLs3.imp fun a ha o e => k4 _ _ (far a ha).2.2 e
      have k34 := k3.trans k4
      have hD5 := s5 _ _ hD4
      have hG5 := s5 _ _ hG4
      have hL5 := (hL4.same s5).add (p := (r, rg + i)) hT5
      have hLs5 : LotsL _ as ls := hLs4.imp fun a _ o e => s5 _ _ e
      have hP5 := hP4.same s5
      have k5 := k34.trans (Same.kp s5)
      generalize upd H4 t (.tup [vN r, V.int ((rg : Int) + (i : Int))]) = H5 at s5 hD5 hG5 hL5 hLs5 hP5 k5
      refine ⟨d, _, _, rfl, rfl, hD5, by rw [List.length_map]; exact small1000 (by omega), ?_⟩
      have hD6 : (upd H5 d (.lst ((L.map fun r => V.ref r.1) ++ [V.ref t]))) d = some (.lst ((L ++ [(t, (r, rg + i))]).map fun r => V.ref r.1)) := by
        rw [upd_same, List.map_append]
        rfl
      have hG6 : (upd H5 d (.lst ((L.map fun r => V.ref r.1) ++ [V.ref t]))) g = some (.lst (as.map V.ref)) := by
        rw [upd_ne ndg.symm]
        exact hG5
      have hL6 := hL5.set (o := .lst ((L.map fun r => V.ref r.1) ++ [V.ref t])) hD5
      have hLs6 : LotsL (upd H5 d (.lst ((L.map fun r => V.ref r.1) ++ [V.ref t]))) as ls := hLs5.imp fun a ha o e => by
        rw [upd_ne (far a ha).1]
        exact e
      have hP6 := hP5.set (o := .lst ((L.map fun r => V.ref r.1) ++ [V.ref t])) dpl
      have k6 := kset (o := .lst ((L.map fun r => V.ref r.1) ++ [V.ref t])) hd k5
      generalize upd H5 d (.lst ((L.map fun r => V.ref r.1) ++ [V.ref t])) = H6 at hD6 hG6 hL6 hLs6 hP6 k6
      refine ⟨_, rfl, .inl ⟨rfl, _, .inl (.inl hG6)⟩, Nat.zero_le _, fun z hz => ?_⟩
      have s7 : Same H6 (upd H6 z (.lst [])) := same_upd hz
      have hZ7 : (upd H6 z (.lst [])) z = some (.lst []) := upd_same
      have zd : z ≠ d := (ne_of_none hD6 hz).symm
      have zg : z ≠ g := (ne_of_none hG6 hz).symm
      have zpl : z ∉ [p, l] := hP6.free hz
      have zas : ∀ a ∈ as, a ≠ z := fun a ha => by
        obtain ⟨y, _, hy⟩ := hLs6.has a ha
        exact ne_of_none hy hz
      have hz0 : H z = none := kp_free k6 zpl hz
      have hD7 := s7 _ _ hD6
      have hG7 := s7 _ _ hG6
      have hL7 := hL6.same s7
      have hLs7 : LotsL _ as ls := hLs6.imp fun a _ o e => s7 _ _ e
      have hP7 := hP6.same s7
      have k7 := k6.trans (Same.kp s7)
      generalize upd H6 z (.lst []) = H7 at s7 hZ7 hD7 hG7 hL7 hLs7 hP7 k7
      refine ⟨g, _, _, rfl, rfl, hG7, by rw [List.length_map, eA]; exact small1000 (by omega), ?_⟩
      have hG8 : (upd H7 g (.lst (as.map V.ref ++ [V.ref z]))) g = some (.lst ((as ++ [z]).map V.ref)) := by
        rw [upd_same, List.map_append]
        rfl
      have hD8 : (upd H7 g (.lst (as.map V.ref ++ [V.ref z]))) d = some (.lst ((L ++ [(t, (r, rg + i))]).map fun r => V.ref r.1)) := by
        rw [upd_ne ndg]
        exact hD7
      have hZ8 : (upd H7 g (.lst (as.map V.ref ++ [V.ref z]))) z = some (.lst []) := by
        rw [upd_ne zg]
        exact hZ7
      have hL8 := hL7.set (o := .lst (as.map V.ref ++ [V.ref z])) hG7
      have hLs8 : LotsL (upd H7 g (.lst (as.map V.ref ++ [V.ref z]))) as ls := hLs7.imp fun a ha o e => by
        rw [upd_ne (far a ha).2.1]
        exact e
      have hP8 := hP7.set (o := .lst (as.map V.ref ++ [V.ref z])) gpl
      have k8 := kset (o := .lst (as.map V.ref ++ [V.ref z])) hg0 k7
      generalize upd H7 g (.lst (as.map V.ref ++ [V.ref z])) = H8 at hD8 hG8 hZ8 hL8 hLs8 hP8 k8
      refine ⟨_, rfl, _, rfl, p, l, bh, rfl, hP8, by omega, by omega, fun m H9 hm hP9 k9 => ?_⟩
      have hD9 := k9 _ _ dpl hD8
      have hG9 := k9 _ _ gpl hG8
      have hZ9 := k9 _ _ zpl hZ8
      have hL9 := hL8.keep k9 hP8.lists
      have hLs9 : LotsL H9 as ls := hLs8.imp fun a ha o e => k9 _ _ (far a ha).2.2 e
      have k9' := k8.trans k9
      have mm : ((1 : Int) + (m : Int)).toNat = 1 + m := by omega
      refine ⟨_, _, rfl, rfl, _, rfl, by omega, by omega, for_range (lo := 0) (n := ((1 : Int) + (m : Int)).toNat) (fun j σ H' => ∃ (M : List (Addr × (Nat × Nat))) (v8 : Option V), σ = [some (.ref p), some (vN rg), some (vN wy), some (vN bh), some (vN (n + j)), some (.ref d), some (.ref g), some (vN i), v8, none, none, none, none, none, none] ∧ Kp [d, z] H9 H' ∧
          H' d = some (.lst ((L ++ [(t, (r, rg + i))] ++ M).map fun r => V.ref r.1)) ∧ TupsAt H' (L ++ [(t, (r, rg + i))] ++ M) ∧ H' z = some (.lst ((List.range' n j).map vN)) ∧ M.map (·.2) = (List.range' n j).map fun b => (rg + i, b)) ?_ ?_ ?_⟩
      · exact ⟨[], _, rfl, Kp.refl _ _, by rw [List.append_nil]; exact hD9, by rw [List.append_nil]; exact hL9, hZ9, rfl⟩
      · rintro j σ Ha hj ⟨M, v8', rfl, ka, hDa, hLa, hZa, eM⟩
        rw [mm] at hj
        have lenM : M.length = j := by
          have := congrArg List.length eM
          rwa [List.length_map, List.length_map, List.length_range'] at this
        refine ⟨_, rfl, .inl ⟨rfl, _, .inl (.inl hDa)⟩, _, rfl, _, rfl, _, _, rfl, rfl, _, rfl, by show 2 ≤ sizeLine; decide, fun tt htt => ?_⟩
        have sb : Same Ha (upd Ha tt (.tup [V.int ((rg : Int) + (i : Int)), vN (n + j)])) := same_upd htt
        have hTb : (upd Ha tt (.tup [V.int ((rg : Int) + (i : Int)), vN (n + j)])) tt = some (.tup [vN (rg + i), vN (n + j)]) := upd_same
        have hDb := sb _ _ hDa
        have hLb := (hLa.same sb).add (p := (rg + i, n + j)) hTb
        have hZb := sb _ _ hZa
        have kb := ka.trans (Same.kp sb)
        generalize upd Ha tt (.tup [V.int ((rg : Int) + (i : Int)), vN (n + j)]) = Hb at sb hDb hLb hZb kb
        refine ⟨d, _, _, rfl, rfl, hDb, by rw [List.length_map, List.length_append, List.length_append]; exact small1000 (by show L.length + 1 + M.length ≤ 1000; omega), ?_⟩
        have kc : Kp [d, z] H9 (upd Hb d (.lst (((L ++ [(t, (r, rg + i))] ++ M).map fun r => V.ref r.1) ++ [V.ref tt]))) := fun b o nb eb => by
          rw [upd_ne (fun y => nb (by rw [y]; simp))]
          exact kb b o nb eb
        have hDc : (upd Hb d (.lst (((L ++ [(t, (r, rg + i))] ++ M).map fun r => V.ref r.1) ++ [V.ref tt]))) d = some (.lst ((L ++ [(t, (r, rg + i))] ++ (M ++ [(tt, (rg + i, n + j))])).map fun r => V.ref r.1)) := by
          rw [upd_same, ← List.append_assoc, List.map_append (l₂ := [(tt, (rg + i, n + j))])]
          rfl
        have hLc := hLb.set (o := .lst (((L ++ [(t, (r, rg + i))] ++ M).map fun r => V.ref r.1) ++ [V.ref tt])) hDb
        have hZc : (upd Hb d (.lst (((L ++ [(t, (r, rg + i))] ++ M).map fun r => V.ref r.1) ++ [V.ref tt]))) z = some (.lst ((List.range' n j).map vN)) := by
          rw [upd_ne zd]
          exact hZb
        generalize upd Hb d (.lst (((L ++ [(t, (r, rg + i))] ++ M).map fun r => V.ref r.1) ++ [V.ref tt])) = Hc at kc hDc hLc hZc
        have hGc : Hc g = some (.lst ((as ++ [z]).map V.ref)) := kc _ _ (by simp only [List.mem_cons, List.not_mem_nil, or_false, not_or]; exact ⟨ndg.symm, zg.symm⟩) hG9
        have hlast : ((as ++ [z]).map V.ref)[i]? = some (V.ref z) := by
          rw [List.getElem?_map, ← eA]
          simp
        refine ⟨_, rfl, _, rfl, g, _, _, _, rfl, rfl, .inl (.inl hGc), atI_nat hlast, .inl ⟨rfl, _, .inl (.inl hZc)⟩, _, rfl, z, _, _, rfl, rfl, hZc, by rw [List.length_map, List.length_range']; exact small1000 (by omega), ?_⟩
        refine ⟨_, rfl, _, _, rfl, rfl, M ++ [(tt, (rg + i, n + j))], _, rfl, ?_, ?_, ?_, ?_, ?_⟩
        · intro b o nb eb
          rw [upd_ne (fun y => nb (by rw [y]; simp))]
          exact kc b o nb eb
        · rw [upd_ne zd.symm]
          exact hDc
        · rw [← List.append_assoc]
          exact hLc.set hZc
        · rw [upd_same, List.range'_concat, List.map_append]
          rw [Nat.one_mul]
          rfl
        · rw [List.map_append, eM, List.range'_concat, List.map_append, Nat.one_mul]
          rfl
      · rintro σ Ha ⟨M, v8', rfl, ka, hDa, hLa, hZa, eM⟩
        rw [mm] at hZa eM ⊢
        have lenM : M.length = 1 + m := by
          have := congrArg List.length eM
          rwa [List.length_map, List.length_map, List.length_range'] at this
        have hGa : Ha g = some (.lst ((as ++ [z]).map V.ref)) := ka _ _ (by simp only [List.mem_cons, List.not_mem_nil, or_false, not_or]; exact ⟨ndg.symm, zg.symm⟩) hG9
        have hLsa : LotsL Ha as ls := hLs9.imp fun a ha o e => ka _ _ (by simp only [List.mem_cons, List.not_mem_nil, or_false, not_or]; exact ⟨(far a ha).1, zas a ha⟩) e
        refine ⟨n + (1 + m), L ++ [(t, (r, rg + i))] ++ M, as ++ [z], ls ++ [List.range' n (1 + m)], _, _, rfl, ?_, ?_, hDa, hLa, hGa, paired_app hLsa (.cons hZa .nil), ?_, ?_, by omega, ?_, ?_, by rw [List.length_append, eA]; rfl, ?_, ?_, ?_⟩
        · exact hP9.keep ka (off2 dpl zpl).1 (off2 dpl zpl).2
        · exact kp_new k9' (fun e he => by
            rcases List.mem_cons.mp he with e1 | e1
            · rw [e1]; exact hd
            · rw [List.mem_singleton.mp e1]; exact hz0) ka
        · intro a ha
          rcases List.mem_append.mp ha with ha | ha
          · exact far a ha
          · rw [List.mem_singleton.mp ha]
            exact ⟨zd, zg, zpl⟩
        · rw [List.flatten_append, eF]
          have e1 : n = rg + wy + (n - (rg + wy)) := by omega
          have e2 : n + (1 + m) - (rg + wy) = (n - (rg + wy)) + (1 + m) := by omega
          have e3 : List.range' (rg + wy) (n - (rg + wy)) ++ List.range' n (1 + m) = List.range' (rg + wy) ((n - (rg + wy)) + (1 + m)) := by
            have := List.range'_append_1 (s := rg + wy) (m := n - (rg + wy)) (n := 1 + m)
            rw [← e1] at this
            exact this
          rw [e2, ← e3]
          exact congrArg (List.range' (rg + wy) (n - (rg + wy)) ++ ·) (List.append_nil _)
        · rw [Nat.mul_succ]
          omega
        · rw [Nat.mul_succ, List.length_append, List.length_append, lenM]
          show L.length + 1 + (1 + m) ≤ _
          omega
        · refine ⟨fun q hq => ?_, fun a ha => ?_⟩
          · rw [List.map_append, List.map_append, eM] at hq
            rcases List.mem_append.mp hq with hq | hq
            · rcases List.mem_append.mp hq with hq | hq
              · rcases plt.kind q hq with h | h | h
                · exact .inl h
                · exact .inr (.inl h)
                · exact .inr (.inr ⟨h.1, h.2.1, h.2.2.1, by omega⟩)
              · rw [List.mem_singleton.mp hq]
                exact .inr (.inl ⟨hr4, by show rg ≤ rg + i; omega, by show rg + i < rg + wy; omega⟩)
            · obtain ⟨b, hb, rfl⟩ := List.mem_map.mp hq
              have := List.mem_range'_1.mp hb
              exact .inr (.inr ⟨by show rg ≤ rg + i; omega, by show rg + i < rg + wy; omega, by show rg + wy ≤ b; omega, by show b < n + (1 + m); omega⟩)
          · rw [List.map_append, List.map_append]
            exact List.mem_append_left _ (List.mem_append_left _ (plt.ring a ha))
        · intro y hy
          rcases List.mem_append.mp hy with hy | hy
          · exact pos y hy
          · rw [List.mem_singleton.mp hy, List.length_range']
            omega
        · intro k hk
          rw [List.map_append, List.map_append]
          by_cases e : k < i
          · obtain ⟨a, h1, h2⟩ := inw k e
            exact ⟨a, h1, List.mem_append_left _ (List.mem_append_left _ h2)⟩
          · have : k = i := by omega
            subst this
            exact ⟨r, hr4, List.mem_append_left _ (List.mem_append_right _ (by simp))⟩
    rintro σ H3 ⟨n, L, as, ls, v7, v8, rfl, hP3, k3, hD3, hL3, hG3, hLs3, far, eF, n0, n1, eL, eA, plt, pos, inw⟩
    have b8 : bh * wy ≤ 30 := (Nat.mul_le_mul bh8 wy3 : bh * wy ≤ 3 * 10)
    have b9 : (bh + 1) * wy ≤ 40 := (Nat.mul_le_mul (by omega) wy3 : (bh + 1) * wy ≤ 4 * 10)
    refine ⟨Nat.zero_le _, fun wd0 hwd0 => ?_⟩
    have s4 : Same H3 (upd H3 wd0 (.lst [])) := same_upd hwd0
    have hW4 : (upd H3 wd0 (.lst [])) wd0 = some (.lst []) := upd_same
    have w0pl : wd0 ∉ [p, l] := hP3.free hwd0
    generalize upd H3 wd0 (.lst []) = H4 at s4 hW4
    refine ⟨_, rfl, g, rfl, ⟨_, .inl (.inl (s4 _ _ hG3))⟩, for_list (K := K) (xs := as.map V.ref) (fun j σ H' => ∃ (wd : Addr) (v10 : Option V), σ = [some (.ref p), some (vN rg), some (vN wy), some (vN bh), some (vN n), some (.ref d), some (.ref g), v7, v8, some (.ref wd), v10, none, none, none, none] ∧ Same H3 H' ∧ wd ∉ [p, l] ∧ H' wd = some (.lst (((ls.take j).flatten).map vN))) ?_ (fun j σ H' _ ⟨_, _, _, s, _⟩ => .inl (.inl (s _ _ hG3))) ?_ ?_⟩
    · exact ⟨wd0, _, rfl, s4, w0pl, hW4⟩
    · rintro j x σ H5 hx ⟨wd, v10, rfl, s5, wpl, hW5⟩
      obtain ⟨a, ha, rfl⟩ := get_map hx
      obtain ⟨lt, hlt, hA⟩ := paired_getL hLs3 ha
      refine ⟨_, rfl, _, rfl, wd, a, _, _, rfl, rfl, hW5, s5 _ _ hA, ?_, fun z hz => ?_⟩
      · rw [List.length_map, List.length_map]
        have h1 : ((ls.take j).flatten).length + lt.length ≤ ls.flatten.length := by
          have e1 : (ls.take (j + 1)).flatten = (ls.take j).flatten ++ lt := by
            rw [take_more hlt, List.flatten_append]
            simp
          rw [← List.length_append, ← e1]
          conv => rhs; rw [← List.take_append_drop (j + 1) ls, List.flatten_append, List.length_append]
          exact Nat.le_add_right _ _
        rw [eF, List.length_range'] at h1
        omega
      · have s6 : Same H5 (upd H5 z (.lst (((ls.take j).flatten).map vN ++ lt.map vN))) := same_upd hz
        refine ⟨z, _, rfl, s5.trans s6, ?_, ?_⟩
        · exact (hP3.same s5).free hz
        · rw [upd_same, take_more hlt, List.flatten_append, List.map_append]
          simp
    rintro σ H5 ⟨wd, v10, rfl, s5, wpl, hW5⟩
    rw [List.take_of_length_le (by rw [List.length_map, Paired.length hLs3]; exact Nat.le_refl _), eF] at hW5
    have hP5 := hP3.same s5
    have hL5 := hL3.same s5
    have ePr : (L.map fun r => V.ref r.1) = (L.map (·.1)).map V.ref := by rw [List.map_map]; rfl
    have hD5 := s5 _ _ hD3
    rw [ePr] at hD5
    have len : (L.map (·.2)).length < 64 := by rw [List.length_map]; omega
    have inP : ∀ q ∈ L.map (·.2), q.1 < n ∧ q.2 < n := by
      intro q hq
      rcases plt.kind q hq with h | h | h
      · have := Nat.mod_lt (q.1 + 1) rg0
        omega
      · omega
      · omega
    have inW : ∀ a, a ∈ List.range' (rg + wy) (n - (rg + wy)) ↔ rg + wy ≤ a ∧ a < n := by
      intro a
      rw [List.mem_range'_1]
      omega
    refine ⟨_, rfl, _, rfl, _, rfl, _, rfl, p, l, d, wd, n, L.map (·.1), L.map (·.2), List.range' (rg + wy) (n - (rg + wy)), rfl, hP5, by omega, hD5, dpl, hL5.pairs, len, inP, hW5, wpl, by rw [List.length_range']; omega, fun a ha => ((inW a).mp ha).2, fun q' c na perm C H6 pm hq0 hna hQ hC hN nmd hP6 k6 => ?_⟩
    have npl : na ∉ [p, l] := hP5.free hna
    have hG6 := k6 _ _ gpl (s5 _ _ hG3)
    have hLs6 : LotsL H6 as ls := hLs3.imp fun a ha o e => k6 _ _ (far a ha).2.2 (s5 _ _ e)
    have k06 := (k3.trans (Same.kp s5)).trans k6
    refine ⟨q', _, rfl, .inl (.inl hQ), rfl, _, _, rfl, _, _, rfl, rfl, ?_⟩
    have lnP : perm.length = n := by rw [pm.length_eq, List.length_range]
    refine ⟨_, rfl, g, rfl, ⟨_, .inl (.inl hG6)⟩, fun tl htl => ?_⟩
    have keep6 : ∀ {H' : Hp}, Kp [tl] H6 H' → Same H6 H' := fun {H'} k b o e => k b o (fun m => by rw [List.mem_singleton.mp m, htl] at e; cases e) e
    refine lc_list (K := K) (xs := as.map V.ref) (fun j H' => Kp [tl] H6 H' ∧ ∃ (tls : List Addr) (tll : List (List Nat)), H' tl = some (.lst (tls.map V.ref)) ∧ LotsL H' tls tll ∧ tll.length = j ∧ (∀ t ∈ tls, t ∉ [p, l] ∧ t ≠ tl) ∧ ∀ m ∈ tll, 0 < m.length ∧ m.length ≤ 30 ∧ ∀ x ∈ m, x < n)
      ⟨(fun b o x e' => by rw [upd_ne (ne_of_none e' htl)]; exact e'), [], [], upd_same, .nil, rfl, (fun _ h => nomatch h), fun _ h => nomatch h⟩ (fun j H' _ ⟨k, _⟩ => .inl (.inl (keep6 k _ _ hG6))) ?_ ?_
    · rintro j x H7 hx ⟨k7, tls, tll, hT7, hTl7, lv, offs, mems⟩
      obtain ⟨a, ha, rfl⟩ := get_map hx
      obtain ⟨lt, hlt, hA⟩ := paired_getL hLs6 ha
      have jl : j < as.length := (List.getElem?_eq_some_iff.mp ha).1
      have ltm := List.mem_of_getElem? hlt
      have ltl : lt.length ≤ 30 := by
        have := (List.sublist_flatten_of_mem ltm).length_le
        rw [eF, List.length_range'] at this
        omega
      have lin : ∀ b ∈ lt, b < n := fun b hb => by
        have : b ∈ ls.flatten := List.mem_flatten.mpr ⟨lt, ltm, hb⟩
        rw [eF] at this
        exact ((inW b).mp this).2
      have hA7 := keep6 k7 _ _ hA
      have hN7 := keep6 k7 _ _ hN
      refine ⟨rfl, ?_⟩
      refine ⟨_, rfl, a, rfl, ⟨_, .inl (.inl hA7)⟩, fun e he => ?_⟩
      have keep7 : ∀ {H' : Hp}, Kp [e] H7 H' → Same H7 H' := fun {H'} k b o e' => k b o (fun m => by rw [List.mem_singleton.mp m, he] at e'; cases e') e'
      refine lc_list (K := K) (xs := lt.map vN) (fun j H' => Kp [e] H7 H' ∧ H' e = some (.lst (((lt.take j).map (nm perm)).map vN)))
        ⟨(fun b o x e' => by rw [upd_ne (ne_of_none e' he)]; exact e'), upd_same⟩ (fun j H' _ ⟨k, _⟩ => .inl (.inl (keep7 k _ _ hA7))) ?_ ?_
      · rintro j2 y H8 hy ⟨k8, hE8⟩
        obtain ⟨b, hb, rfl⟩ := get_map hy
        refine ⟨rfl, _, rfl, _, rfl, na, _, _, _, rfl, rfl, .inl (.inl (keep7 k8 _ _ hN7)), nm_at pm (lin b (List.mem_of_getElem? hb)), _, hE8, ?_, ?_, ?_⟩
        · rw [List.length_map, List.length_map, List.length_take]
          exact small1000 (by omega)
        · intro b' o nb eb
          rw [upd_ne (fun z => nb (by rw [z]; simp))]
          exact k8 b' o nb eb
        · rw [upd_same, take_more hb, List.map_append, List.map_append]
          rfl
      · rintro H8 ⟨k8, hE8⟩
        refine ⟨e, iN ((lt.take ((lt.map vN).length)).map (nm perm)), rfl, .inl (.inl (by rw [← vN_map]; exact hE8)), fun ns' pq pmq _ hpq => ?_⟩
        have s8 : Same H7 (upd H8 pq (.lst (ns'.map V.int))) := (keep7 k8).trans (same_upd hpq)
        rw [List.take_of_length_le (by rw [List.length_map]; exact Nat.le_refl _)] at pmq
        obtain ⟨m, em⟩ : ∃ m, ns' = iN m := natZ fun x hx => by
          obtain ⟨y, _, rfl⟩ := List.mem_map.mp (pmq.mem_iff.mp hx)
          omega
        have hT8 : (keep7 k8) _ _ hT7 = (keep7 k8) _ _ hT7 := rfl
        have nqt : pq ≠ tl := fun e => by
          rw [e, (keep7 k8) _ _ hT7] at hpq
          cases hpq
        have hP8 := hP6.same ((keep6 k7).trans (keep7 k8))
        have ltls : tls.length = j := by rw [Paired.length hTl7]; exact lv
        refine ⟨tls.map V.ref, s8 _ _ hT7, by rw [List.length_map]; exact small1000 (by omega), ?_, tls ++ [pq], tll ++ [m], by rw [upd_same, List.map_append]; rfl, paired_app (hTl7.imp fun t ht o e => by rw [upd_ne (offs t ht).2]; exact s8 _ _ e) (.cons ?_ .nil), by rw [List.length_append, lv]; rfl, ?_, ?_⟩
        · intro b o nb eb
          rw [upd_ne (fun z => nb (by rw [z]; simp))]
          exact s8 _ _ (k7 b o nb eb)
        · rw [upd_ne nqt, upd_same, em, vN_map]
        · intro t ht
          rcases List.mem_append.mp ht with ht | ht
          · exact offs t ht
          · rw [List.mem_singleton.mp ht]
            exact ⟨hP8.free hpq, nqt⟩
        · intro y hy
          rcases List.mem_append.mp hy with hy | hy
          · exact mems y hy
          · rw [List.mem_singleton.mp hy]
            have ln : m.length = lt.length := by
              have := pmq.length_eq
              rwa [em, iN_length, iN_length, List.length_map] at this
            refine ⟨by rw [ln]; exact pos lt ltm, by omega, fun x hx => ?_⟩
            have h1 : (x : Int) ∈ ns' := by rw [em]; exact iN_mem.mpr hx
            obtain ⟨b, hb, e⟩ := List.mem_map.mp (iN_mem.mp (pmq.mem_iff.mp h1))
            rw [← e]
            exact perm_lt pm (lin b hb)
    rintro H7 ⟨k7, tls, tll, hT7, hTl7, lv, offs, mems⟩
    have s7 := keep6 k7
    have hN7 := s7 _ _ hN
    have hP7 := hP6.same s7
    refine ⟨_, rfl, _, rfl, _, rfl, by omega, by omega, fun e he => ?_⟩
    have keep7 : ∀ {H' : Hp}, Kp [e] H7 H' → Same H7 H' := fun {H'} k b o e' => k b o (fun m => by rw [List.mem_singleton.mp m, he] at e'; cases e') e'
    refine lc_range (lo := 0) (n := rg) (fun j H' => Kp [e] H7 H' ∧ H' e = some (.lst (((List.range j).map (nm perm)).map vN)))
      ⟨(fun b o x e' => by rw [upd_ne (ne_of_none e' he)]; exact e'), upd_same⟩ ?_ ?_
    · rintro j H8 hj ⟨k8, hE8⟩
      have e0 : (0 : Int) + (j : Nat) = (j : Nat) := by omega
      refine ⟨rfl, ?_⟩
      rw [e0]
      refine ⟨_, rfl, _, rfl, na, _, _, _, rfl, rfl, .inl (.inl (keep7 k8 _ _ hN7)), nm_at pm (by omega), _, hE8, ?_, ?_, ?_⟩
      · rw [List.length_map, List.length_map, List.length_range]
        exact small1000 (by omega)
      · intro b' o nb eb
        rw [upd_ne (fun z => nb (by rw [z]; simp))]
        exact k8 b' o nb eb
      · rw [upd_same, List.range_succ, List.map_append, List.map_append]
        rfl
    rintro H8 ⟨k8, hE8⟩
    refine ⟨e, iN ((List.range rg).map (nm perm)), rfl, .inl (.inl (by rw [← vN_map]; exact hE8)), fun ns' ri pm' pw hri => ?_⟩
    have ndr : ((List.range rg).map (nm perm)).Nodup := by
      refine List.pairwise_map.mpr ?_
      refine List.Pairwise.imp_of_mem (fun {a b} ha hb h => ?_) (range_up rg)
      intro e1
      have := nm_inj pm (by have := List.mem_range.mp ha; omega) (by have := List.mem_range.mp hb; omega) e1
      omega
    obtain ⟨ring, er, upr, memr⟩ := sorted_iN ndr pm' pw
    have s8 : Same H6 (upd H8 ri (.lst (ns'.map V.int))) := (s7.trans (keep7 k8)).trans (same_upd hri)
    have hRi : (upd H8 ri (.lst (ns'.map V.int))) ri = some (.lst (ring.map vN)) := by
      rw [upd_same, er, vN_map]
      rfl
    have ripl : ri ∉ [p, l] := (hP7.same (keep7 k8)).free hri
    have s79 : Same H7 (upd H8 ri (.lst (ns'.map V.int))) := (keep7 k8).trans (same_upd hri)
    generalize upd H8 ri (.lst (ns'.map V.int)) = H9 at s8 hRi s79
    have hN9 := s8 _ _ hN
    refine ⟨_, rfl, _, rfl, by omega, by omega, fun wa hwa => ?_⟩
    have keep9 : ∀ {H' : Hp}, Kp [wa] H9 H' → Same H9 H' := fun {H'} k b o e' => k b o (fun m => by rw [List.mem_singleton.mp m, hwa] at e'; cases e') e'
    refine lc_range (lo := 0) (n := wy) (fun j H' => Kp [wa] H9 H' ∧ H' wa = some (.lst (((List.range j).map fun k => nm perm (rg + k)).map vN)))
      ⟨(fun b o x e' => by rw [upd_ne (ne_of_none e' hwa)]; exact e'), upd_same⟩ ?_ ?_
    · rintro j Ha hj ⟨ka, hWa⟩
      have e0 : (0 : Int) + (j : Nat) = (j : Nat) := by omega
      refine ⟨rfl, ?_⟩
      rw [e0]
      refine ⟨_, rfl, _, rfl, _, rfl, _, _, rfl, rfl, na, _, _, _, rfl, rfl, .inl (.inl (keep9 ka _ _ hN9)), nm_at pm (a := rg + j) (by omega), _, hWa, ?_, ?_, ?_⟩
      · rw [List.length_map, List.length_map, List.length_range]
        exact small1000 (by omega)
      · intro b' o nb eb
        rw [upd_ne (fun z => nb (by rw [z]; simp))]
        exact ka b' o nb eb
      · rw [upd_same, List.range_succ, List.map_append, List.map_append]
        rfl
    rintro Ha ⟨ka, hWa⟩
    refine ⟨_, rfl, by show 4 ≤ sizeLine; decide, fun q0 hq00 => ?_⟩
    have sa : Same H6 (upd Ha q0 (.lst [.ref c, .ref ri, .ref wa, .ref tl])) := (s8.trans (keep9 ka)).trans (same_upd hq00)
    refine q q0 c ri wa tl C ring _ tls tll _ upd_same (hC.same sa) nmd.ok ?_ ?_ ?_ ?_ ripl ((hP6.same s8).free hwa) ⟨n, L.map (·.2), _, perm, pm, n0, plt, inW, nmd, upr, ?_, rfl⟩ ?_ (hP6.same sa) (k06.trans (Same.kp sa))
    · exact ((keep9 ka).trans (same_upd hq00)) _ _ hRi
    · exact (same_upd hq00) _ _ hWa
    · have := congrArg List.length er
      rw [List.length_map, pm'.length_eq, iN_length, List.length_map, List.length_range] at this
      exact this.symm
    · rw [List.length_map, List.length_range]
    · intro x
      rw [memr x, List.mem_map]
      exact ⟨fun ⟨a, h1, h2⟩ => ⟨a, List.mem_range.mp h1, h2.symm⟩, fun ⟨a, h1, h2⟩ => ⟨a, List.mem_range.mpr h1, h2.symm⟩⟩
    · have same7 : Same H7 (upd Ha q0 (.lst [.ref c, .ref ri, .ref wa, .ref tl])) := s79.trans ((keep9 ka).trans (same_upd hq00))
      have un : ∀ k, k < wy → nm perm (rg + k) ∉ C.wished := fun k hk hm => by
        obtain ⟨a, ha, e⟩ := (nmd.wished _).mp hm
        obtain ⟨h1, h2⟩ := (inW a).mp ha
        have := nm_inj pm (by omega) h2 e
        omega
      refine ⟨same7 _ _ hT7, hTl7.imp fun t _ o e => same7 _ _ e, by rw [lv, List.length_map, eA], hP6.free htl, fun t ht => (offs t ht).1, fun m hm => ?_, fun x hx => ?_, ?_, fun x hx => ?_, fun x hx => ?_, ?_, fun x hx => ?_, upr⟩
      · obtain ⟨h1, h2, h3⟩ := mems m hm
        exact ⟨h1, h2, fun x hx => by rw [nmd.n]; exact h3 x hx⟩
      · obtain ⟨k, hk, rfl⟩ := List.mem_map.mp hx
        obtain ⟨a, h1, h2⟩ := inw k (List.mem_range.mp hk)
        exact ⟨nm perm a, (nmd.roads _ _).mpr ⟨a, rg + k, h2, rfl, rfl⟩⟩
      · exact Nat.lt_of_le_of_lt nmd.few len
      · obtain ⟨k, hk, rfl⟩ := List.mem_map.mp hx
        have := List.mem_range.mp hk
        rw [nmd.n]
        exact perm_lt pm (by omega)
      · obtain ⟨k, hk, rfl⟩ := List.mem_map.mp hx
        exact un k (List.mem_range.mp hk)
      · refine List.pairwise_map.mpr ?_
        refine List.Pairwise.imp_of_mem (fun {a b} ha hb h => ?_) (range_up wy)
        intro e1
        have := nm_inj pm (by have := List.mem_range.mp ha; omega) (by have := List.mem_range.mp hb; omega) e1
        omega
      · obtain ⟨a, ha, rfl⟩ := List.mem_map.mp ((memr x).mp hx)
        have := List.mem_range.mp ha
        rw [nmd.n]
        exact perm_lt pm (by omega)
end
end Ft

set_option Elab.async false
set_option linter.all false
set_option maxRecDepth 100000
set_option maxHeartbeats 8000000
namespace Ft
open PySem PySem.Spec PyProof.Rows L2
theorem free_mk {C : Chart} {m : List Nat} (up : m.Pairwise (· < ·)) (lt : ∀ x ∈ m, x < C.n) (un : ∀ x ∈ m, x ∉ C.wished) : freeD C (lotD m) = true := by
  unfold freeD
  show (match natsL (m.map nD) with
    | some l => lotOk C.n (lotD m) && !l.any (fun p => decide (p ∈ C.wished))
    | none => false) = true
  rw [natsL_map, lotOk_lot up lt]
  show (true && !m.any fun p => decide (p ∈ C.wished)) = true
  rw [Bool.true_and, Bool.not_eq_true', List.any_eq_false]
  intro x hx h
  exact un x hx (of_decide_eq_true h)
theorem up_mk {m : List Nat} (pw : (iN m).Pairwise (· ≤ ·)) (nd : m.Nodup) : m.Pairwise (· < ·) := by
  have h1 : m.Pairwise (· ≤ ·) := (List.pairwise_map.mp pw).imp fun {a b} h => by omega
  exact (h1.and nd).imp fun {a b} h => Nat.lt_of_le_of_ne h.1 h.2
theorem rows_dpL {K : PySem.W.Frag} {H : Hp} : ∀ {Ws : List (Addr × List Nat)}, (∀ r ∈ Ws, SqT K H r.1 (r.2.map vN)) → DpAll K H (Ws.map fun r => V.ref r.1) (Ws.map fun r => lotD r.2)
  | [], _ => .nil
  | r :: Ws, h => .cons (dp_lot (h r List.mem_cons_self)) (rows_dpL fun q m => h q (List.mem_cons_of_mem _ m))
theorem seq_join {s rest : TS} {D : Ends} {σ : L2.St} {H : Hp} (M : L2.St → Hp → Prop) (h2 : ∀ σ H, M σ H → rest D σ H) (h1 : (∀ σ H, M σ H → rest D σ H) → s { D with nx := rest D } σ H) : tSeq s rest D σ H := h1 h2
/-- ways made so far: rows of three places -/
def WayRows (K : PySem.W.Frag) (H : Hp) (n : Nat) (Ws : List (Addr × List Nat)) : Prop := ∀ r ∈ Ws, SqT K H r.1 (r.2.map vN) ∧ r.2.length = 3 ∧ ∀ x ∈ r.2, x < n
theorem WayRows.kp {K : PySem.W.Frag} {ex : List Addr} {H H' : Hp} {n : Nat} {Ws : List (Addr × List Nat)} (k : Kp ex H H') (l : Lists ex H) (h : WayRows K H n Ws) : WayRows K H' n Ws := fun r m => ⟨k.sqT l (h r m).1, (h r m).2⟩
theorem WayRows.same {K : PySem.W.Frag} {H H' : Hp} {n : Nat} {Ws : List (Addr × List Nat)} (k : Same H H') (h : WayRows K H n Ws) : WayRows K H' n Ws := fun r m => ⟨Same.sqT k (h r m).1, (h r m).2⟩
theorem lists_one {H : Hp} {d : Addr} {xs : List V} (h : H d = some (.lst xs)) : Lists [d] H := fun b hb => by
  rw [List.mem_singleton.mp hb]
  exact ⟨_, h, (fun _ y => nomatch y), (fun _ _ y => nomatch y)⟩
theorem kp_set {H : Hp} {d : Addr} {o : HO} : Kp [d] H (upd H d o) := fun b x nb eb => by
  rw [upd_ne (fun z => nb (by rw [z]; simp))]
  exact eb
section
variable {P : Program} {w : World} {K : PySem.W.Frag} {mg : Str → Option Value} {base : Heap} {ca : Str → Addr}
/-! ### _law_planted -/
def sp_law_planted (K : PySem.W.Frag) : Sp := fun vs H Q _ => ∃ (p l : Addr), vs = [.ref p] ∧ PoolAt H p l ∧ ∀ H', PoolAt H' p l → Kp [p, l] H H' → Q (.bl true) H'
theorem cal_law_planted (T : Txt mg) (D : Def K mg "_law_planted" s_law_planted) (c_law_map_planted : Cal P w K mg base 5 "_law_map_planted" (sp_law_map_planted K)) (c_law_draw : Cal P w K mg base 2 "_law_draw" sp_law_draw) (c_law_pick : Cal P w K mg base 3 "_law_pick" (sp_law_pick K)) (c_law_all_told : CalG P w K mg base 9 "_law_all_told" (sp_law_all_told K)) : CalG P w K mg base 10 "_law_planted" (sp_law_planted K) := by
  refine calG_of D sc_law_planted (fun _ _ _ _ _ _ us hl => match us, hl with | [_], _ => rfl) (fun vs H Q E h => ?_) (fun f cdv A outer s H vs Q E hg hr h => ?_)
  · obtain ⟨p, l, rfl, _⟩ := h
    rfl
  · obtain ⟨p, l, rfl, hP, q⟩ := h
    have hU := hr.units
    have hG := hg
    refine ⟨_, (pss_cons (ps_asg (pe_c c_law_map_planted hr (by decide) (by rfl) (pa_cons (pv 0) (pa_cons (pe_op op_add pe_int (pe_c c_law_draw hr (by decide) (by rfl) (pa_cons (pv 0) (pa_cons pe_int pa_nil)))) (pa_cons (pe_op op_add pe_int (pe_c c_law_draw hr (by decide) (by rfl) (pa_cons (pv 0) (pa_cons pe_int pa_nil)))) (pa_cons pe_int pa_nil))))) (show PG _ _ (gLst K 4 _) from pg_lst (by rfl) (pgs_cons (pg_name (i := 1) sc_law_planted.nd rfl (Or.inl rfl)) (pgs_cons (pg_name (i := 2) sc_law_planted.nd rfl (Or.inl rfl)) (pgs_cons (pg_name (i := 3) sc_law_planted.nd rfl (Or.inl rfl)) (pgs_cons (pg_name (i := 4) sc_law_planted.nd rfl (Or.inl rfl)) pgs_nil))))))
      (pss_cons (ps_par (i := 5) (j := 6) (by rfl) sc_law_planted.nd rfl rfl (by decide) rfl rfl (pa_cons (pe_lst pa_nil) (pa_cons (pe_lst pa_nil) pa_nil)) (by rfl))
      (pss_cons (ps_for PassesOwn.never rfl (show PI _ _ _ (iEnum K _) from pi_enum (by rfl) T.enumerate (pa_cons (pv 3) pa_nil)) (show PG _ _ (gTup K 2 _) from pg_tup (by rfl) (pgs_cons (pg_name (i := 7) sc_law_planted.nd rfl (Or.inl rfl)) (pgs_cons (pg_name (i := 8) sc_law_planted.nd rfl (Or.inr rfl)) pgs_nil))) (pss_cons (ps_setLc (i := 9) (own := [("a", 10), ("b", 11)]) rfl sc_law_planted.nd rfl rfl (sw_true rfl rfl rfl (by decide +kernel)) (show PI _ _ _ (iTup K _) from pi_tup (pe_ix (show IxR _ (rIxT K) from ix_tup) (pv 1) pe_int (fun _ _ => rfl))) (blkOk_by (N := ["pool", "chart", "ring", "waists", "last", "ways", "free", "at", "waist", "out", "a", "b"]) (sc := L2.defScope s_law_planted) (by decide +kernel)) (fun _ _ _ _ _ => (show PG _ _ (gTup K 2 _) from pg_tup (by rfl) (pgs_cons (pg_name (i := 10) sc_law_planted.nd rfl (Or.inl rfl)) (pgs_cons (pg_name (i := 11) sc_law_planted.nd rfl (Or.inl rfl)) pgs_nil)))) (fun _ _ _ _ _ => pts_one (pt_cmpR op_eq (pv 11) (pv 8) (nomark _))) (fun _ _ _ _ _ => (pv 10)))
        (pss_cons (ps_if (pt_cmpR op_gt (pe_c c_law_draw hr (by decide) (by rfl) (pa_cons (pv 0) (pa_cons pe_int pa_nil))) pe_int (nomark _)) (pss_one (ps_expr (pe_bm PySem.F.plainAttrs_list PySem.F.slot_list_append PySem.F.type_list_append mt_append (pv 5) (pa_cons (pe_tup (pa_cons (pe_ix (show IxR _ (rIxL K) from ix_list) (pv 9) pe_int (fun _ _ => rfl)) (pa_cons (pv 8) (pa_cons (pe_c c_law_pick hr (by decide) (by rfl) (pa_cons (pv 0) (pa_cons (pe_ix (show IxR _ (rIxL K) from ix_list) (pv 4) (pv 7) (fun _ _ => rfl)) pa_nil))) pa_nil)))) pa_nil)))) pss_nil)
        (pss_cons (ps_if (pt_cmpR op_eq (pe_c c_law_draw hr (by decide) (by rfl) (pa_cons (pv 0) (pa_cons pe_int pa_nil))) pe_int (nomark _)) (pss_one (ps_expr (pe_bm PySem.F.plainAttrs_list PySem.F.slot_list_append PySem.F.type_list_append mt_append (pv 5) (pa_cons (pe_tup (pa_cons (pe_ix (show IxR _ (rIxL K) from ix_list) (pv 9) pe_int (fun _ _ => rfl)) (pa_cons (pv 8) (pa_cons (pe_c c_law_pick hr (by decide) (by rfl) (pa_cons (pv 0) (pa_cons (pe_ix (show IxR _ (rIxL K) from ix_list) (pv 4) (pv 7) (fun _ _ => rfl)) pa_nil))) pa_nil)))) pa_nil)))) pss_nil)
        (pss_one (ps_if (pt_cmpR op_eq (pe_c c_law_draw hr (by decide) (by rfl) (pa_cons (pv 0) (pa_cons pe_int pa_nil))) pe_int (nomark _)) (pss_one (ps_expr (pe_bm PySem.F.plainAttrs_list PySem.F.slot_list_append PySem.F.type_list_append mt_append (pv 6) (pa_cons (pv 8) pa_nil)))) pss_nil))))))
      (pss_one (ps_ret (pe_g c_law_all_told hG hr (by decide) (by rfl) (pa_cons (pv 0) (pa_cons (pv 1) (pa_cons (pe_callTy (show CallR _ _ (rTupleOf K) from call_tupleOf) (by rfl) T.tuple (by decide +kernel) (pa_cons (pv 2) pa_nil)) (pa_cons (pe_callTy (show CallR _ _ (rTupleOf K) from call_tupleOf) (by rfl) T.tuple (by decide +kernel) (pa_cons (pe_callB (show CallR _ _ (rSortedI K) from cr_sortedI) (by rfl) T.sorted (by decide +kernel) (pa_cons (pv 6) pa_nil)) pa_nil)) (pa_cons (pe_callTy (show CallR _ _ (rTupleOf K) from call_tupleOf) (by rfl) T.tuple (by decide +kernel) (pa_cons (pe_slice (show SlR _ (rSlL K) from sl_list) (pv 5) po_none (po_some pe_int)) pa_nil)) pa_nil))))))))))), ?_⟩
    refine ⟨_, rfl, _, rfl, p, l, 20, rfl, hP, by decide, by decide, fun z1 H1 hz1 hP1 k1 => ?_⟩
    refine ⟨_, _, rfl, rfl, _, rfl, p, l, 10, rfl, hP1, by decide, by decide, fun z2 H2 hz2 hP2 k2 => ?_⟩
    refine ⟨_, _, rfl, rfl, p, l, 1 + z1, 1 + z2, 3, rfl, hP2, by omega, by omega, by omega, by decide, by decide, fun q0 c ri wa tl C ring wts tls tll H3 hq hC ok hRi hWa lr lw ripl wapl plt told hP3 k3 => ?_⟩
    refine ⟨q0, _, rfl, .inl (.inl hq), rfl, _, _, rfl, _, _, rfl, _, _, rfl, _, _, rfl, rfl, ?_⟩
    have k03 := (k1.trans k2).trans k3
    have n60 := ok.n60
    refine ⟨Nat.zero_le _, fun w0 hw0 => ?_⟩
    have s4 : Same H3 (upd H3 w0 (.lst [])) := same_upd hw0
    have hW4 : (upd H3 w0 (.lst [])) w0 = some (.lst []) := upd_same
    generalize upd H3 w0 (.lst []) = H4 at s4 hW4
    refine ⟨Nat.zero_le _, fun f0 hf0 => ?_⟩
    have s5 : Same H4 (upd H4 f0 (.lst [])) := same_upd hf0
    have hF5 : (upd H4 f0 (.lst [])) f0 = some (.lst (([] : List Nat).map vN)) := upd_same
    have hW5 := s5 _ _ hW4
    have nwf : w0 ≠ f0 := ne_of_none hW4 hf0
    generalize upd H4 f0 (.lst []) = H5 at s5 hF5 hW5
    have s35 := s4.trans s5
    have w0pl : w0 ∉ [p, l] := hP3.free hw0
    have f0pl : f0 ∉ [p, l] := (hP3.same s4).free hf0
    have hf03 : H3 f0 = none := by
      cases e : H3 f0 with
      | none => rfl
      | some o => rw [s4 _ _ e] at hf0; cases hf0
    refine ⟨_, _, rfl, ?_⟩
    have hWa5 := s35 _ _ hWa
    refine ⟨_, rfl, wa, _, rfl, .inl (.inl hWa5), for_it walk_enum (fun i σ H' => ∃ (Ws : List (Addr × List Nat)) (Fs : List Nat) (v7 v8 v9 v10 v11 : Option V), σ = [some (.ref p), some (.ref c), some (.ref ri), some (.ref wa), some (.ref tl), some (.ref w0), some (.ref f0), v7, v8, v9, v10, v11] ∧ PoolAt H' p l ∧ Kp [p, l] H3 H' ∧ H' w0 = some (.lst (Ws.map fun r => V.ref r.1)) ∧ WayRows K H' C.n Ws ∧ H' f0 = some (.lst (Fs.map vN)) ∧ Fs.Sublist (wts.take i) ∧ Ws.length ≤ 2 * i)
      ⟨[], [], _, _, _, _, _, rfl, hP3.same s35, Same.kp s35, hW5, (fun _ h => nomatch h), hF5, List.Sublist.slnil, Nat.zero_le _⟩ (fun i σ H' _ ⟨_, _, _, _, _, _, _, _, _, k, _⟩ => .inl (.inl (k _ _ wapl hWa))) ?_ ?_⟩
    · rintro i x σ H6 H7 hi ⟨Ws, Fs, v7, v8, v9, v10, v11, rfl, hP6, k6, hW6, hWs6, hF6, sub6, lW6⟩ ⟨t, x0, y, rfl, nt, rfl, e1, e2⟩
      cases e1
      obtain ⟨wst, hwst, rfl⟩ := get_map e2
      rw [List.length_map] at hi
      have s7 : Same H6 (upd H6 t (.tup [.int (i : Nat), vN wst])) := same_upd nt
      have hT7 : (upd H6 t (.tup [.int (i : Nat), vN wst])) t = some (.tup [.int (i : Nat), vN wst]) := upd_same
      generalize upd H6 t (.tup [.int (i : Nat), vN wst]) = H7 at s7 hT7
      refine ⟨t, _, rfl, .inl (.inl hT7), rfl, _, _, rfl, _, _, rfl, rfl, ?_⟩
      have k7 : Kp [p, l] H3 H7 := k6.trans (Same.kp s7)
      obtain ⟨r, wd, ts, hC7⟩ := hC.keep k7 hP3.lists
      refine ⟨_, rfl, _, _, _, _, rfl, rfl, hC7.top, rfl, r, rfl, ⟨_, hC7.row⟩, fun g hg => ?_⟩
      have keep : ∀ {H' : Hp}, Kp [g] H7 H' → Same H7 H' := fun {H'} k b o e' => k b o (fun m => by rw [List.mem_singleton.mp m, hg] at e'; cases e') e'
      have hP7 := hP6.same s7
      have gpl : g ∉ [p, l] := hP7.free hg
      have hWs7 := hWs6.same s7
      have hW7 := s7 _ _ hW6
      have hF7 := s7 _ _ hF6
      have ngw : w0 ≠ g := ne_of_none hW7 hg
      have ngf : f0 ≠ g := ne_of_none hF7 hg
      have hg3 : H3 g = none := kp_free k7 gpl hg
      have many := ok.many
      refine lc_tup (K := K) (a := r) (xs := ts.map V.ref) (fun j H' => Kp [g] H7 H' ∧ H' g = some (.lst ((((C.roads.take j).filter fun q => decide (q.2 = wst)).map (·.1)).map vN)))
        ⟨(fun b o x e' => by rw [upd_ne (ne_of_none e' hg)]; exact e'), upd_same⟩ (fun j H' _ ⟨k, _⟩ => Same.sqT (keep k) hC7.row) ?_ ?_
      · rintro j x H8 hx ⟨k8, hG8⟩
        obtain ⟨t', ht', rfl⟩ := get_map hx
        obtain ⟨q1, hq1, pt⟩ := paired_getL hC7.prs ht'
        have jl : j < C.roads.length := (List.getElem?_eq_some_iff.mp hq1).1
        refine ⟨t', _, rfl, Same.sqT (keep k8) pt, rfl, _, _, rfl, _, _, rfl, rfl, rfl, ?_⟩
        have hf : (C.roads.take (j + 1)).filter (fun q => decide (q.2 = wst)) = (C.roads.take j).filter (fun q => decide (q.2 = wst)) ++ (if decide (q1.2 = wst) = true then [q1] else []) := by
          rw [take_more hq1, List.filter_append, List.filter_cons, List.filter_nil]
        refine ⟨_, rfl, _, rfl, rfl, _, rfl, ite_any (fun hc => ?_) (fun hc => ?_)⟩
        · have hc' : q1.2 = wst := by
            have := of_decide_eq_true hc
            unfold vN at this
            injection this with this
            omega
          rw [if_pos (decide_eq_true hc')] at hf
          refine ⟨_, rfl, _, hG8, ?_, ?_, ?_⟩
          · have := List.length_filter_le (fun q : Nat × Nat => decide (q.2 = wst)) (C.roads.take j)
            rw [List.length_take] at this
            rw [List.length_map, List.length_map]
            exact small1000 (by omega)
          · intro b o nb eb
            rw [upd_ne (fun z => nb (by rw [z]; simp))]
            exact k8 b o nb eb
          · rw [upd_same, hf, List.map_append, List.map_append]
            rfl
        · have hc' : q1.2 ≠ wst := fun e => by
            have := of_decide_eq_false hc
            rw [e] at this
            exact this rfl
          rw [if_neg (by rw [decide_eq_false hc']; simp), List.append_nil] at hf
          exact ⟨k8, by rw [hf]; exact hG8⟩
      rintro H8 ⟨k8, hG8⟩
      have lts : (ts.map V.ref).length = C.roads.length := by rw [List.length_map]; exact Paired.length hC7.prs
      rw [lts, List.take_length] at hG8
      obtain ⟨A, eA⟩ : ∃ A, (C.roads.filter fun q => decide (q.2 = wst)).map (·.1) = A := ⟨_, rfl⟩
      rw [eA] at hG8
      have wm : wst ∈ wts := List.mem_of_getElem? hwst
      obtain ⟨a0, ha0⟩ : ∃ a0, A[0]? = some a0 := by
        obtain ⟨a, ha⟩ := told.into wst wm
        have : a ∈ A := by
          rw [← eA]
          exact List.mem_map.mpr ⟨(a, wst), List.mem_filter.mpr ⟨ha, by simp⟩, rfl⟩
        exact ⟨_, List.getElem?_eq_getElem (List.length_pos_of_mem this)⟩
      have a0n : a0 < C.n := by
        have := List.mem_of_getElem? ha0
        rw [← eA] at this
        obtain ⟨q1, hq1, e⟩ := List.mem_map.mp this
        rw [← e]
        exact (ok.inR q1 (List.mem_filter.mp hq1).1).1
      have s78 := keep k8
      have k38 : Kp [p, l] H3 H8 := k7.trans (Same.kp s78)
      obtain ⟨mi, hmi⟩ : ∃ mi, tll[i]? = some mi := ⟨_, List.getElem?_eq_getElem (by rw [told.len]; omega)⟩
      obtain ⟨ti, hti, hTi⟩ := paired_get told.lots hmi
      obtain ⟨m0, m30, mn⟩ := told.mem mi (List.mem_of_getElem? hmi)
      have tipl := told.offs ti (List.mem_of_getElem? hti)
      have i10 : i < 10 := by omega
      refine at_name ?_
      dsimp only
      refine seq_join (M := fun σ H' => ∃ (Ws : List (Addr × List Nat)) (Fs : List Nat) (v10 v11 : Option V), σ = [some (.ref p), some (.ref c), some (.ref ri), some (.ref wa), some (.ref tl), some (.ref w0), some (.ref f0), some (.int (i : Nat)), some (vN wst), some (.ref g), v10, v11] ∧ PoolAt H' p l ∧ Kp [p, l] H3 H' ∧ H' w0 = some (.lst (Ws.map fun r => V.ref r.1)) ∧ WayRows K H' C.n Ws ∧ H' f0 = some (.lst (Fs.map vN)) ∧ Fs.Sublist (wts.take i) ∧ Ws.length ≤ 2 * i + 1 ∧ H' g = some (.lst (A.map vN))) (fun σ9 Ha h9 => ?_) (fun nxt => ?_)
      · obtain ⟨Ws, Fs, v10, v11, rfl, hPa, ka, hWa_, hRa, hFa, subA, lWa, hGa⟩ := h9
        refine seq_join (M := fun σ H' => ∃ (Ws : List (Addr × List Nat)) (Fs : List Nat) (v10 v11 : Option V), σ = [some (.ref p), some (.ref c), some (.ref ri), some (.ref wa), some (.ref tl), some (.ref w0), some (.ref f0), some (.int (i : Nat)), some (vN wst), some (.ref g), v10, v11] ∧ PoolAt H' p l ∧ Kp [p, l] H3 H' ∧ H' w0 = some (.lst (Ws.map fun r => V.ref r.1)) ∧ WayRows K H' C.n Ws ∧ H' f0 = some (.lst (Fs.map vN)) ∧ Fs.Sublist (wts.take i) ∧ Ws.length ≤ 2 * i + 2 ∧ H' g = some (.lst (A.map vN))) (fun σ10 Ha h10 => ?_) (fun nxt2 => ?_)
        · obtain ⟨Ws, Fs, v10, v11, rfl, hPa, ka, hWa_, hRa, hFa, subA, lWa, hGa⟩ := h10
          refine ⟨_, rfl, p, l, 2, rfl, hPa, by decide, by decide, fun d Hb _ hPb kb => ?_⟩
          have k3b := ka.trans kb
          have hWb := kb _ _ w0pl hWa_
          have hFb := kb _ _ f0pl hFa
          have hRb := hRa.kp kb hPa.lists
          refine ⟨rfl, _, rfl, ite_any (fun _ => ?_) (fun _ => ?_)⟩
          · refine ⟨_, rfl, .inl ⟨rfl, _, .inl (.inl hFb)⟩, _, rfl, f0, _, _, rfl, rfl, hFb, ?_, ?_⟩
            · have h1 := subA.length_le
              rw [List.length_take] at h1
              rw [List.length_map]
              exact small1000 (by omega)
            · refine ⟨Ws, Fs ++ [wst], _, _, _, _, _, rfl, hPb.set f0pl, fun b o nb eb => ?_, by rw [upd_ne nwf]; exact hWb, hRb.kp kp_set (lists_one hFb), by rw [upd_same, List.map_append]; rfl, ?_, by omega⟩
              · rw [upd_ne (ne_of_none eb hf03)]
                exact k3b b o nb eb
              · rw [take_more hwst]
                exact subA.append (List.Sublist.refl _)
          · refine ⟨Ws, Fs, _, _, _, _, _, rfl, hPb, k3b, hWb, hRb, hFb, ?_, by omega⟩
            rw [take_more hwst]
            exact subA.trans (List.sublist_append_left _ _)
        · refine ⟨_, rfl, p, l, 3, rfl, hPa, by decide, by decide, fun dnxt2 Hb _ hPb kb => ?_⟩
          have k3b := ka.trans kb
          have hWb := kb _ _ w0pl hWa_
          have hFb := kb _ _ f0pl hFa
          have hGb := kb _ _ gpl hGa
          have hRb := hRa.kp kb hPa.lists
          refine ⟨rfl, _, rfl, ite_any (fun _ => ?_) (fun _ => ?_)⟩
          · refine ⟨_, rfl, .inl ⟨rfl, _, .inl (.inl hWb)⟩, ?_⟩
            refine ⟨_, rfl, g, _, _, _, rfl, rfl, .inl (.inl hGb), atI_nat (j := 0) (by rw [List.getElem?_map, ha0]; rfl), ?_⟩
            refine ⟨_, rfl, _, rfl, _, rfl, _, rfl, tl, _, _, _, rfl, rfl, .inl (.inl (k3b _ _ told.off told.at_)), atI_nat (j := i) (by rw [List.getElem?_map, hti]; rfl), p, l, ti, mi.map vN, rfl, hPb, .inl ⟨.inl (.inl (k3b _ _ tipl hTi)), tipl⟩, by rw [List.length_map]; exact m0, by rw [List.length_map]; omega, fun v Hc hv hPc kc => ?_⟩
            obtain ⟨y, hy, rfl⟩ := List.mem_map.mp hv
            refine ⟨by show 3 ≤ sizeLine; decide, fun tp htp => ?_⟩
            have k3c := k3b.trans kc
            have hWc := kc _ _ w0pl hWb
            have hFc := kc _ _ f0pl hFb
            have hGc := kc _ _ gpl hGb
            have hRc := hRb.kp kc hPb.lists
            have sd : Same Hc (upd Hc tp (.tup [vN a0, vN wst, vN y])) := same_upd htp
            have hTd : (upd Hc tp (.tup [vN a0, vN wst, vN y])) tp = some (.tup ([a0, wst, y].map vN)) := upd_same
            have ntw : w0 ≠ tp := ne_of_none hWc htp
            generalize upd Hc tp (.tup [vN a0, vN wst, vN y]) = Hd at sd hTd
            have hWd := sd _ _ hWc
            have hFd := sd _ _ hFc
            have hGd := sd _ _ hGc
            have hRd := hRc.same sd
            refine ⟨w0, _, _, rfl, rfl, hWd, by rw [List.length_map]; exact small1000 (by omega), ?_⟩
            refine nxt2 _ _ ⟨Ws ++ [(tp, [a0, wst, y])], Fs, _, _, rfl, (hPc.same sd).set w0pl, fun b o nb eb => ?_, by rw [upd_same, List.map_append]; rfl, fun r' hr' => ?_, by rw [upd_ne nwf.symm]; exact hFd, subA, by rw [List.length_append, List.length_singleton]; omega, by rw [upd_ne ngw.symm]; exact hGd⟩
            · rw [upd_ne (ne_of_none eb hw0)]
              exact sd _ _ (k3c b o nb eb)
            · rcases List.mem_append.mp hr' with hr' | hr'
              · exact (hRd.kp kp_set (lists_one hWd)) r' hr'
              · rw [List.mem_singleton.mp hr']
                refine ⟨.inl (.inl (by rw [upd_ne ntw.symm]; exact hTd)), rfl, fun x hx => ?_⟩
                simp only [List.mem_cons, List.not_mem_nil, or_false] at hx
                rcases hx with rfl | rfl | rfl
                · exact a0n
                · exact told.wlt _ wm
                · exact mn _ hy
          · exact nxt2 _ _ ⟨Ws, Fs, _, _, rfl, hPb, k3b, hWb, hRb, hFb, subA, by omega, hGb⟩
      · obtain ⟨hPa, ka, hWa_, hRa, hFa, subA, lWa, hGa⟩ : PoolAt H8 p l ∧ Kp [p, l] H3 H8 ∧ H8 w0 = some (.lst (Ws.map fun r => V.ref r.1)) ∧ WayRows K H8 C.n Ws ∧ H8 f0 = some (.lst (Fs.map vN)) ∧ Fs.Sublist (wts.take i) ∧ Ws.length ≤ 2 * i ∧ H8 g = some (.lst (A.map vN)) := ⟨hP7.same s78, k38, s78 _ _ hW7, hWs7.same s78, s78 _ _ hF7, sub6, lW6, hG8⟩
        refine ⟨_, rfl, p, l, 4, rfl, hPa, by decide, by decide, fun dnxt Hb _ hPb kb => ?_⟩
        have k3b := ka.trans kb
        have hWb := kb _ _ w0pl hWa_
        have hFb := kb _ _ f0pl hFa
        have hGb := kb _ _ gpl hGa
        have hRb := hRa.kp kb hPa.lists
        refine ⟨_, _, rfl, rfl, _, rfl, ite_any (fun _ => ?_) (fun _ => ?_)⟩
        · refine ⟨_, rfl, .inl ⟨rfl, _, .inl (.inl hWb)⟩, ?_⟩
          refine ⟨_, rfl, g, _, _, _, rfl, rfl, .inl (.inl hGb), atI_nat (j := 0) (by rw [List.getElem?_map, ha0]; rfl), ?_⟩
          refine ⟨_, rfl, _, rfl, _, rfl, _, rfl, tl, _, _, _, rfl, rfl, .inl (.inl (k3b _ _ told.off told.at_)), atI_nat (j := i) (by rw [List.getElem?_map, hti]; rfl), p, l, ti, mi.map vN, rfl, hPb, .inl ⟨.inl (.inl (k3b _ _ tipl hTi)), tipl⟩, by rw [List.length_map]; exact m0, by rw [List.length_map]; omega, fun v Hc hv hPc kc => ?_⟩
          obtain ⟨y, hy, rfl⟩ := List.mem_map.mp hv
          refine ⟨by show 3 ≤ sizeLine; decide, fun tp htp => ?_⟩
          have k3c := k3b.trans kc
          have hWc := kc _ _ w0pl hWb
          have hFc := kc _ _ f0pl hFb
          have hGc := kc _ _ gpl hGb
          have hRc := hRb.kp kc hPb.lists
          have sd : Same Hc (upd Hc tp (.tup [vN a0, vN wst, vN y])) := same_upd htp
          have hTd : (upd Hc tp (.tup [vN a0, vN wst, vN y])) tp = some (.tup ([a0, wst, y].map vN)) := upd_same
          have ntw : w0 ≠ tp := ne_of_none hWc htp
          generalize upd Hc tp (.tup [vN a0, vN wst, vN y]) = Hd at sd hTd
          have hWd := sd _ _ hWc
          have hFd := sd _ _ hFc
          have hGd := sd _ _ hGc
          have hRd := hRc.same sd
          refine ⟨w0, _, _, rfl, rfl, hWd, by rw [List.length_map]; exact small1000 (by omega), ?_⟩
          refine nxt _ _ ⟨Ws ++ [(tp, [a0, wst, y])], Fs, _, _, rfl, (hPc.same sd).set w0pl, fun b o nb eb => ?_, by rw [upd_same, List.map_append]; rfl, fun r' hr' => ?_, by rw [upd_ne nwf.symm]; exact hFd, subA, by rw [List.length_append, List.length_singleton]; omega, by rw [upd_ne ngw.symm]; exact hGd⟩
          · rw [upd_ne (ne_of_none eb hw0)]
            exact sd _ _ (k3c b o nb eb)
          · rcases List.mem_append.mp hr' with hr' | hr'
            · exact (hRd.kp kp_set (lists_one hWd)) r' hr'
            · rw [List.mem_singleton.mp hr']
              refine ⟨.inl (.inl (by rw [upd_ne ntw.symm]; exact hTd)), rfl, fun x hx => ?_⟩
              simp only [List.mem_cons, List.not_mem_nil, or_false] at hx
              rcases hx with rfl | rfl | rfl
              · exact a0n
              · exact told.wlt _ wm
              · exact mn _ hy
        · exact nxt _ _ ⟨Ws, Fs, _, _, rfl, hPb, k3b, hWb, hRb, hFb, subA, by omega, hGb⟩
    · rintro σ H6 ⟨Ws, Fs, v7, v8, v9, v10, v11, rfl, hP6, k6, hW6, hWs6, hF6, sub6, lW6⟩
      rw [List.length_map] at sub6 lW6
      rw [List.take_length] at sub6
      have hRi6 := k6 _ _ ripl hRi
      have hC6 := hC.keep k6 hP3.lists
      refine ⟨_, rfl, _, rfl, _, rfl, ri, _, rfl, .inl ⟨.inl (.inl hRi6), fun t0 ht0 => ?_⟩⟩
      have s7 : Same H6 (upd H6 t0 (.tup (ring.map vN))) := same_upd ht0
      have hT0 : (upd H6 t0 (.tup (ring.map vN))) t0 = some (.tup (ring.map vN)) := upd_same
      generalize upd H6 t0 (.tup (ring.map vN)) = H7 at s7 hT0
      have hF7 : H7 f0 = some (.lst ((iN Fs).map V.int)) := by rw [← vN_map]; exact s7 _ _ hF6
      refine ⟨_, rfl, f0, iN Fs, rfl, .inl (.inl hF7), fun ns' pq pm pw hpq => ?_⟩
      obtain ⟨m, em⟩ : ∃ m, ns' = iN m := natZ fun x hx => by
        obtain ⟨z, _, rfl⟩ := List.mem_map.mp (pm.mem_iff.mp hx)
        omega
      subst em
      have memF : ∀ x ∈ m, x ∈ wts := fun x hx => sub6.subset (iN_mem.mp (pm.mem_iff.mp (iN_mem.mpr hx)))
      have ndm : m.Nodup := by
        have h1 : (iN m).Nodup := pm.nodup_iff.mpr (iN_nodup (told.wnd.sublist sub6))
        exact (List.pairwise_map.mp h1).imp fun {a b} h e => h (by rw [e])
      have upm := up_mk pw ndm
      have s8 : Same H7 (upd H7 pq (.lst ((iN m).map V.int))) := same_upd hpq
      have hPq : (upd H7 pq (.lst ((iN m).map V.int))) pq = some (.lst (m.map vN)) := by rw [upd_same, vN_map]
      generalize upd H7 pq (.lst ((iN m).map V.int)) = H8 at s8 hPq
      refine ⟨pq, _, rfl, .inl ⟨.inl (.inl hPq), fun t1 ht1 => ?_⟩⟩
      have s9 : Same H8 (upd H8 t1 (.tup (m.map vN))) := same_upd ht1
      have hT1 : (upd H8 t1 (.tup (m.map vN))) t1 = some (.tup (m.map vN)) := upd_same
      generalize upd H8 t1 (.tup (m.map vN)) = H9 at s9 hT1
      have s69 := (s7.trans s8).trans s9
      refine ⟨_, rfl, _, rfl, w0, _, rfl, .inl (.inl (s69 _ _ hW6)), fun u hu => ?_⟩
      have eCut : cutV (Ws.map fun r => V.ref r.1) none (some 12) = (Ws.take 12).map fun r => V.ref r.1 := by
        have := cutG_take (l := Ws.map fun r => V.ref r.1) (k := 12)
        rw [← List.map_take] at this
        exact this
      rw [eCut]
      have s10 : Same H9 (upd H9 u (.lst ((Ws.take 12).map fun r => V.ref r.1))) := same_upd hu
      have hU10 : (upd H9 u (.lst ((Ws.take 12).map fun r => V.ref r.1))) u = some (.lst ((Ws.take 12).map fun r => V.ref r.1)) := upd_same
      generalize upd H9 u (.lst ((Ws.take 12).map fun r => V.ref r.1)) = H10 at s10 hU10
      refine ⟨u, _, rfl, .inl ⟨.inl (.inl hU10), fun t2 ht2 => ?_⟩⟩
      have s11 : Same H10 (upd H10 t2 (.tup ((Ws.take 12).map fun r => V.ref r.1))) := same_upd ht2
      have hT2 : (upd H10 t2 (.tup ((Ws.take 12).map fun r => V.ref r.1))) t2 = some (.tup ((Ws.take 12).map fun r => V.ref r.1)) := upd_same
      generalize upd H10 t2 (.tup ((Ws.take 12).map fun r => V.ref r.1)) = H11 at s11 hT2
      have s611 := (s69.trans s10).trans s11
      have hWs11 := hWs6.same s611
      refine ⟨p, l, c, t0, t1, C, ring, m, .ref t2, (Ws.take 12).map fun r => lotD r.2, rfl, hP6.same s611, hC6.same s611, ok, told.few, .inl (.inl ((((s8.trans s9).trans s10).trans s11) _ _ hT0)), lotOk_lot told.rup told.rlt, .inl (.inl ((s10.trans s11) _ _ hT1)), free_mk upm (fun x hx => told.wlt x (memF x hx)) (fun x hx => told.wun x (memF x hx)), .tup (.inl (.inl hT2)) (rows_dpL fun r hr' => (hWs11 r (List.mem_of_mem_take hr')).1), by rw [List.length_map, List.length_take]; omega, fun d hd => ?_, fun H' hP' k' => q H' hP' ((k03.trans (k6.trans (Same.kp s611))).trans k')⟩
      obtain ⟨r', hr', rfl⟩ := List.mem_map.mp hd
      obtain ⟨_, h3, hx⟩ := hWs11 r' (List.mem_of_mem_take hr')
      exact ⟨r'.2, rfl, by omega, by omega, hx⟩
end
end Ft

set_option Elab.async false
set_option linter.all false
set_option maxRecDepth 100000
set_option maxHeartbeats 4000000
/-! Plain mathematics: the law's own way of meeting places, row by row -/
namespace Ft
structure Layer (n : Nat) (rs : List (Nat × Nat)) (ws : List Nat) (a : Nat) (F W : List Nat) : Prop where
  nd : F.Nodup
  lt : ∀ b ∈ F, b < n
  fair : ∀ b ∈ F, Reach rs ws a b
  wait : ∀ x ∈ W, x = a ∨ (x ∈ F ∧ x ∉ ws)
  ok : ∀ x, (x = a ∨ (x ∈ F ∧ x ∉ ws)) → x ∈ W ∨ ∀ b, (x, b) ∈ rs → b ∈ F
theorem Layer.start {n : Nat} {rs : List (Nat × Nat)} {ws : List Nat} {a : Nat} : Layer n rs ws a [] [a] :=
  ⟨List.nodup_nil, fun _ h => absurd h List.not_mem_nil, fun _ h => absurd h List.not_mem_nil, fun x h => .inl (List.mem_singleton.mp h), fun x h => by
    rcases h with h | h
    · exact .inl (List.mem_singleton.mpr h)
    · exact absurd h.1 List.not_mem_nil⟩
theorem Layer.step {n : Nat} {rs : List (Nat × Nat)} {ws : List Nat} {a : Nat} {F W A : List Nat} (L : Layer n rs ws a F W) (inR : ∀ p ∈ rs, p.1 < n ∧ p.2 < n) (nd : A.Nodup) (hA : ∀ b, b ∈ A ↔ ∃ x ∈ W, (x, b) ∈ rs) :
    Layer n rs ws a (F ++ A.filter fun b => !decide (b ∈ F)) ((A.filter fun b => !decide (b ∈ F)).filter fun b => !decide (b ∈ ws)) := by
  have mem : ∀ b, b ∈ A.filter (fun b => !decide (b ∈ F)) ↔ b ∈ A ∧ b ∉ F := fun b => by simp [List.mem_filter]
  have fairA : ∀ b ∈ A, b < n ∧ Reach rs ws a b := by
    intro b hb
    obtain ⟨x, hx, hr⟩ := (hA b).mp hb
    refine ⟨(inR _ hr).2, ?_⟩
    rcases L.wait x hx with e | ⟨h1, h2⟩
    · rw [e] at hr
      exact .one hr
    · exact .more (L.fair x h1) h2 hr
  refine ⟨?_, ?_, ?_, ?_, ?_⟩
  · rw [List.nodup_append]
    refine ⟨L.nd, nd.filter _, fun x hx y hy e => ?_⟩
    exact ((mem y).mp hy).2 (e ▸ hx)
  · intro b hb
    rcases List.mem_append.mp hb with hb | hb
    · exact L.lt b hb
    · exact (fairA b ((mem b).mp hb).1).1
  · intro b hb
    rcases List.mem_append.mp hb with hb | hb
    · exact L.fair b hb
    · exact (fairA b ((mem b).mp hb).1).2
  · intro x hx
    rw [List.mem_filter] at hx
    exact .inr ⟨List.mem_append_right _ hx.1, by simpa using hx.2⟩
  · intro x hx
    have old : (x = a ∨ (x ∈ F ∧ x ∉ ws)) → ∀ b, (x, b) ∈ rs → b ∈ F ++ A.filter fun b => !decide (b ∈ F) := by
      intro h b hb
      rcases L.ok x h with h1 | h1
      · by_cases hf : b ∈ F
        · exact List.mem_append_left _ hf
        · exact List.mem_append_right _ ((mem b).mpr ⟨(hA b).mpr ⟨x, h1, hb⟩, hf⟩)
      · exact List.mem_append_left _ (h1 b hb)
    rcases hx with e | ⟨h1, h2⟩
    · exact .inr (old (.inl e))
    · rcases List.mem_append.mp h1 with h1 | h1
      · exact .inr (old (.inr ⟨h1, h2⟩))
      · exact .inl (List.mem_filter.mpr ⟨h1, by simpa using h2⟩)
theorem Layer.ends {n : Nat} {rs : List (Nat × Nat)} {ws : List Nat} {a : Nat} {F : List Nat} (L : Layer n rs ws a F []) (x : Nat) : x ∈ F ↔ x < n ∧ ∃ a' ∈ [a], Reach rs ws a' x := by
  constructor
  · intro h
    exact ⟨L.lt x h, a, List.mem_singleton.mpr rfl, L.fair x h⟩
  · rintro ⟨_, a', ha', r⟩
    rw [List.mem_singleton.mp ha'] at r
    refine r.within (S := (· ∈ F)) (fun y hy => ?_) fun y z hy hw hz => ?_
    · rcases L.ok a (.inl rfl) with h | h
      · exact absurd h List.not_mem_nil
      · exact h y hy
    · rcases L.ok y (.inr ⟨hy, hw⟩) with h | h
      · exact absurd h List.not_mem_nil
      · exact h z hz
/-- a sorted row of a set's numbers -/
theorem set_nat {ns : List Int} {A : List Nat} (up : ns.Pairwise (· < ·)) (mem : ∀ j : Int, j ∈ ns ↔ decide (j ∈ iN A) = true) : ∃ wl : List Nat, ns = iN wl ∧ wl.Pairwise (· < ·) ∧ ∀ x, x ∈ wl ↔ x ∈ A := by
  have nn : ∀ y ∈ ns, 0 ≤ y := by
    intro y hy
    have := of_decide_eq_true ((mem y).mp hy)
    unfold iN at this
    obtain ⟨z, _, ez⟩ := List.mem_map.mp this
    omega
  have e : ns = iN (ns.map Int.toNat) := by
    unfold iN
    rw [List.map_map]
    conv => lhs; rw [← List.map_id ns]
    exact List.map_congr_left fun y hy => (Int.toNat_of_nonneg (nn y hy)).symm
  refine ⟨ns.map Int.toNat, e, ?_, fun x => ?_⟩
  · rw [e] at up
    unfold iN at up
    exact (List.pairwise_map.mp up).imp fun h => by omega
  · constructor
    · intro h
      obtain ⟨y, hy, ey⟩ := List.mem_map.mp h
      have h2 := of_decide_eq_true ((mem y).mp hy)
      have h3 : y = (x : Int) := by
        have := nn y hy
        omega
      rw [h3] at h2
      exact iN_mem.mp h2
    · intro h
      exact List.mem_map.mpr ⟨(x : Int), (mem _).mpr (decide_eq_true (iN_mem.mpr h)), by omega⟩
end Ft

set_option Elab.async false
set_option linter.all false
set_option maxRecDepth 100000
set_option maxHeartbeats 8000000
namespace Ft
open PySem PySem.Spec PyProof.Rows L2
theorem ahead_mem {rs : List (Nat × Nat)} {W : List Nat} {b : Nat} : b ∈ (rs.filter fun p => decide (p.1 ∈ W)).map (·.2) ↔ ∃ x ∈ W, (x, b) ∈ rs := by
  simp only [List.mem_map, List.mem_filter, decide_eq_true_eq]
  constructor
  · rintro ⟨⟨x, y⟩, ⟨h1, h2⟩, rfl⟩
    exact ⟨x, h2, h1⟩
  · rintro ⟨x, h1, h2⟩
    exact ⟨(x, b), ⟨h2, h1⟩, rfl⟩
section
variable {P : Program} {w : World} {K : PySem.W.Frag} {mg : Str → Option Value} {base : Heap} {t1 t2 : Tok}
/-! ### _law_map_met -/
def sp_law_map_met (K : PySem.W.Frag) : Sp := fun vs H Q _ => ∃ (c : Addr) (C : Chart) (a : Nat), vs = [.ref c, vN a] ∧ IsChart K H c C ∧ C.Ok ∧ a < C.n ∧ ∀ q H', Same H H' → H q = none → H' q = some (.lst ((met C.n C.roads C.wished [a]).map vN)) → Q (.ref q) H'
end
end Ft

set_option Elab.async false
set_option linter.all false
set_option maxRecDepth 100000
set_option maxHeartbeats 4000000
/-! Plain mathematics: the pieces of a map, and rows in their order -/
namespace Ft
theorem piece_mem {C : Chart} {a b : Nat} (hw : a ∉ C.wished) : b ∈ pieceOf C a ↔ b < C.n ∧ b ∉ C.wished ∧ (b = a ∨ (Reach C.roads C.wished a b ∧ Reach C.roads C.wished b a)) := by
  unfold pieceOf
  rw [if_neg hw]
  exact those_mem
theorem piece_eq {C : Chart} {a b : Nat} (hb : b ∈ pieceOf C a) : pieceOf C b = pieceOf C a := by
  by_cases hw : a ∈ C.wished
  · have e : pieceOf C a = [a] := by
      unfold pieceOf
      rw [if_pos hw]
    rw [e] at hb
    rw [List.mem_singleton.mp hb]
  · obtain ⟨bn, bw, rel⟩ := (piece_mem hw).mp hb
    refine asc_ext (piece_up C b) (piece_up C a) fun x => ?_
    rw [piece_mem bw, piece_mem hw]
    constructor
    · rintro ⟨xn, xw, h⟩
      refine ⟨xn, xw, ?_⟩
      rcases rel with e | ⟨r1, r2⟩
      · rw [e] at h
        exact h
      · rcases h with e | ⟨q1, q2⟩
        · rw [e]
          exact .inr ⟨r1, r2⟩
        · exact .inr ⟨r1.trans bw q1, q2.trans bw r2⟩
    · rintro ⟨xn, xw, h⟩
      refine ⟨xn, xw, ?_⟩
      rcases rel with e | ⟨r1, r2⟩
      · rw [e]
        exact h
      · rcases h with e | ⟨q1, q2⟩
        · rw [e]
          exact .inr ⟨r2, r1⟩
        · exact .inr ⟨r2.trans hw q1, q2.trans hw r1⟩
theorem piecesL_mem {C : Chart} {l : List Nat} : l ∈ piecesL C ↔ ∃ a ∈ unw C, l = pieceOf C a := by
  unfold piecesL
  constructor
  · intro h
    obtain ⟨a, ha, rfl⟩ := List.mem_map.mp h
    exact ⟨a, (List.mem_filter.mp ha).1, rfl⟩
  · rintro ⟨a, ha, rfl⟩
    have ha' := unw_mem.mp ha
    cases e : pieceOf C a with
    | nil =>
      have := piece_self ha'.1
      rw [e] at this
      exact absurd this List.not_mem_nil
    | cons h rest =>
      have hh : h ∈ pieceOf C a := by
        rw [e]
        exact List.mem_cons_self
      have hm := (piece_mem ha'.2).mp hh
      have e2 := piece_eq hh
      refine List.mem_map.mpr ⟨h, List.mem_filter.mpr ⟨unw_mem.mpr ⟨hm.1, hm.2.1⟩, ?_⟩, by rw [e2, e]⟩
      unfold isLeast
      rw [e2, e]
      simp
/-- rows ascending as rows -/
def ltL (p q : List Int) : Prop := p ≤ q ∧ p ≠ q
theorem ltL_asym {p q : List Int} (h1 : ltL p q) (h2 : ltL q p) : False := h1.2 (List.le_antisymm h1.1 h2.1)
theorem rows_ext : ∀ {l1 l2 : List (List Int)}, l1.Pairwise ltL → l2.Pairwise ltL → (∀ x, x ∈ l1 ↔ x ∈ l2) → l1 = l2
  | [], [], _, _, _ => rfl
  | [], b :: l2, _, _, h => absurd ((h b).mpr List.mem_cons_self) List.not_mem_nil
  | a :: l1, [], _, _, h => absurd ((h a).mp List.mem_cons_self) List.not_mem_nil
  | a :: l1, b :: l2, h1, h2, h => by
    obtain ⟨a1, p1⟩ := List.pairwise_cons.mp h1
    obtain ⟨a2, p2⟩ := List.pairwise_cons.mp h2
    have e : a = b := by
      rcases List.mem_cons.mp ((h a).mp List.mem_cons_self) with e | m
      · exact e
      · rcases List.mem_cons.mp ((h b).mpr List.mem_cons_self) with e | m'
        · exact e.symm
        · exact (ltL_asym (a2 a m) (a1 b m')).elim
    subst e
    refine congrArg (a :: ·) (rows_ext p1 p2 fun x => ⟨fun m => ?_, fun m => ?_⟩)
    · rcases List.mem_cons.mp ((h x).mp (List.mem_cons_of_mem _ m)) with e | m'
      · exact ((a1 x m).2 e.symm).elim
      · exact m'
    · rcases List.mem_cons.mp ((h x).mpr (List.mem_cons_of_mem _ m)) with e | m'
      · exact ((a2 x m).2 e.symm).elim
      · exact m'
theorem cons_ltL {a b : Int} {p q : List Int} (h : a < b) : ltL (a :: p) (b :: q) := by
  refine ⟨List.cons_le_cons_iff.mpr (.inl h), fun e => ?_⟩
  injection e with e1 _
  omega
theorem piecesL_up (C : Chart) : ((piecesL C).map iN).Pairwise ltL := by
  unfold piecesL
  rw [List.map_map]
  refine List.pairwise_map.mpr ?_
  refine List.Pairwise.imp_of_mem (fun {a b} ha hb h => ?_) ((unw_up C).filter (isLeast C))
  have la := (List.mem_filter.mp ha).2
  have lb := (List.mem_filter.mp hb).2
  unfold isLeast at la lb
  have la := of_decide_eq_true la
  have lb := of_decide_eq_true lb
  show ltL (iN (pieceOf C a)) (iN (pieceOf C b))
  cases ea : pieceOf C a with
  | nil =>
    rw [ea] at la
    cases la
  | cons x p =>
    cases eb : pieceOf C b with
    | nil =>
      rw [eb] at lb
      cases lb
    | cons y q =>
      rw [ea] at la
      rw [eb] at lb
      have e1 : x = a := Option.some.inj la
      have e2 : y = b := Option.some.inj lb
      rw [e1, e2]
      exact cons_ltL (show (a : Int) < (b : Int) by omega)
theorem iN_inj : ∀ {l1 l2 : List Nat}, iN l1 = iN l2 → l1 = l2
  | [], [], _ => rfl
  | [], _ :: _, h => by simp [iN] at h
  | _ :: _, [], h => by simp [iN] at h
  | a :: l1, b :: l2, h => by
    unfold iN at h
    rw [List.map_cons, List.map_cons] at h
    injection h with h1 h2
    have e : a = b := by omega
    rw [e, iN_inj (l1 := l1) (l2 := l2) h2]
/-- what is met, one place more -/
theorem those_yes {j : Nat} {P : Nat → Prop} (h : P j) : those (j + 1) P = those j P ++ [j] := by
  unfold those
  rw [List.range_succ, List.filter_append]
  congr 1
  rw [List.filter_cons]
  simp [h]
theorem those_no {j : Nat} {P : Nat → Prop} (h : ¬ P j) : those (j + 1) P = those j P := by
  unfold those
  rw [List.range_succ, List.filter_append]
  simp [h]
theorem met_mem {n : Nat} {rs : List (Nat × Nat)} {ws : List Nat} {a b : Nat} : b ∈ met n rs ws [a] ↔ b < n ∧ Reach rs ws a b := by
  unfold met
  rw [those_mem]
  constructor
  · rintro ⟨h, x, hx, r⟩
    rw [List.mem_singleton.mp hx] at r
    exact ⟨h, r⟩
  · rintro ⟨h, r⟩
    exact ⟨h, a, List.mem_singleton.mpr rfl, r⟩
end Ft

set_option Elab.async false
set_option linter.all false
set_option maxRecDepth 100000
set_option maxHeartbeats 8000000
namespace Ft
open PySem PySem.Spec PyProof.Rows L2
/-- the rows of what each place comes to -/
structure TabAt (H : Hp) (C : Chart) (q : Addr) (rows : List Addr) : Prop where
  len : rows.length = C.n
  at_ : LotsAt H q rows fun a => met C.n C.roads C.wished [a]
theorem TabAt.same {H H' : Hp} (k : Same H H') {C : Chart} {q : Addr} {rows : List Addr} (h : TabAt H C q rows) : TabAt H' C q rows := ⟨h.len, k _ _ h.at_.top, fun a l e => k _ _ (h.at_.each a l e)⟩
theorem rows_at {K : PySem.W.Frag} {H : Hp} : ∀ {L : List Row} {lls : List (List Nat)}, L.map (·.2) = lls.map iN → (∀ p ∈ L, SqT K H p.1 (p.2.map V.int)) → RowsAt K H (L.map (·.1)) lls
  | [], [], _, _ => .nil
  | [], _ :: _, e, _ => by simp at e
  | _ :: _, [], e, _ => by simp at e
  | p :: L, l :: lls, e, h => by
    rw [List.map_cons, List.map_cons] at e
    injection e with e1 e2
    refine .cons ?_ (rows_at e2 fun q hq => h q (List.mem_cons_of_mem _ hq))
    have := h p List.mem_cons_self
    rw [e1, ← vN_map] at this
    exact this
section
variable {P : Program} {w : World} {K : PySem.W.Frag} {mg : Str → Option Value} {base : Heap} {t1 t2 : Tok}
/-! ### _law_map_table -/
def sp_law_map_table (K : PySem.W.Frag) : Sp := fun vs H Q _ => ∃ (c : Addr) (C : Chart), vs = [.ref c] ∧ IsChart K H c C ∧ C.Ok ∧ ∀ q rows H', Same H H' → H q = none → (∀ l ∈ rows, H l = none) → TabAt H' C q rows → Q (.ref q) H'
/-! ### _law_map_piece -/
def sp_law_map_piece (K : PySem.W.Frag) : Sp := fun vs H Q _ => ∃ (c tb : Addr) (C : Chart) (rows : List Addr) (a : Nat), vs = [.ref c, .ref tb, vN a] ∧ IsChart K H c C ∧ C.Ok ∧ a < C.n ∧ TabAt H C tb rows ∧ ∀ t H', Same H H' → SqT K H' t ((pieceOf C a).map vN) → Q (.ref t) H'
end
end Ft

set_option Elab.async false
set_option linter.all false
set_option maxRecDepth 100000
set_option maxHeartbeats 4000000
namespace Ft
open PySem PySem.Spec PyProof.Rows L2
/-- any walk within a block, its turns by an invariant -/
theorem by_turns {J : It} {n : Nat} {G : Hp → Prop} {Y : Nat → Hp → V → Hp → Prop} (w : L2.Walk J n G Y) {Bd : (Hp → Prop) → V → Hp → Prop} {H0 : Hp} {Qd : Hp → Prop} (Pv : Nat → Hp → Prop) (h0 : Pv 0 H0) (hG : ∀ i H, i ≤ n → Pv i H → G H)
    (hs : ∀ i x H H', i < n → Pv i H → Y i H x H' → Bd (Pv (i + 1)) x H') (hd : ∀ H, Pv n H → Qd H) :
    ∃ W : Nat → Nat → Hp → Prop, (∃ m, W 0 m H0) ∧ ∀ i m H, W i m H → (J.stop i H ∧ Qd H) ∨ (J.go i H ∧ ∃ Nx : Hp → Prop, (∀ H', Nx H' → ∃ m', m' < m ∧ W (i + 1) m' H') ∧ ∀ x H', J.yld i H x H' → Bd Nx x H') := by
  refine ⟨fun i m H => m = n - i ∧ i ≤ n ∧ Pv i H, ⟨n, rfl, Nat.zero_le _, h0⟩, fun i m H ⟨em, hi, p⟩ => ?_⟩
  subst em
  have g := hG i H hi p
  by_cases lt : i < n
  · exact .inr ⟨w.goes i H lt g, Pv (i + 1), fun H' p' => ⟨n - (i + 1), by omega, rfl, lt, p'⟩, fun x H' y => hs i x H H' lt p (w.yields i H x H' lt g y)⟩
  · have e : i = n := by omega
    subst e
    exact .inl ⟨w.stops H g, hd H p⟩
/-- a if c else b, as a test -/
def tCond (tc ta tb : TT) : TT := fun σ H Q => tc σ H fun z H1 => if z = true then ta σ H1 Q else tb σ H1 Q
theorem pt_cond {X : Cx} {c a b : Expr} {pos : Pos} {tc ta tb : TT} (hc : PT X c tc) (ha : PT X a ta) (hb : PT X b tb) : PT X (.IfExp c a b pos) (tCond tc ta tb) := by
  refine ⟨fun pins s σ H Q I h => isTrue_IfExp (thn (hc.run pins s σ H _ I h) fun z s1 ⟨H1, I1, q1⟩ => ?_)⟩
  cases z with
  | true => exact ha.run pins s1 σ H1 Q I1 q1
  | false => exact hb.run pins s1 σ H1 Q I1 q1
end Ft

set_option Elab.async false
set_option linter.all false
set_option maxRecDepth 100000
set_option maxHeartbeats 4000000
/-! a set of ints by two clauses -/
namespace Ft
open PySem PySem.Spec PyProof.Rows L2
abbrev twoSet (el ta ia tb ib : Expr) (ca cb : List Expr) (sco : Scope) (at_ : Pos) : Expr := .SetComp el [⟨ta, ia, ca, 0⟩, ⟨tb, ib, cb, 0⟩] sco at_
section
variable {G : Program} {w : World} {A : Around} {Z : Result → Shared → Prop} {el ta ia tb ib : Expr} {ca cb : List Expr} {sco : Scope} {at_ : Pos} {o d : Value} {ev : Env}
/-- the tests of a clause, until one fails -/
abbrev tests (cs : List Expr) (ev : Env) : Sem Bool := forIn cs true fun c r => if r = true then (isTrue c ev (eval c ev) >>= fun z => pure (ForInStep.yield z)) else pure (ForInStep.yield r)
theorem turn_a : compTurn (twoSet el ta ia tb ib ca cb sco at_) 0 o d ev = (standAt ia.pos >>= fun _ => pyNext o >>= fun (n : Option Value) => match n with
    | none => pure (.done .next)
    | some v => letOwnedTupleGo ta o v >>= fun _ => assign ta ev v >>= fun _ => tests ca ev >>= fun z =>
      if z = true then (eval ib ev >>= fun y => standAt ib.pos >>= fun _ => foldedSetIterable ib ev y >>= fun y => holding [y] (pyIter y) >>= fun t => runOwn (.compStart (twoSet el ta ia tb ib ca cb sco at_) 1 t d ev) ev >>= fun _ => again (.compLoop (twoSet el ta ia tb ib ca cb sco at_) 0 o d ev))
      else again (.compLoop (twoSet el ta ia tb ib ca cb sco at_) 0 o d ev)) := by rfl
theorem turn_b : compTurn (twoSet el ta ia tb ib ca cb sco at_) 1 o d ev = (standAt ib.pos >>= fun _ => pyNext o >>= fun (n : Option Value) => match n with
    | none => pure (.done .next)
    | some v => letOwnedTupleGo tb o v >>= fun _ => assign tb ev v >>= fun _ => tests cb ev >>= fun z =>
      if z = true then ((eval el ev >>= fun y => standAt el.pos >>= fun _ => call (.builtin "set.add") [d, y] >>= fun _ => pure ()) >>= fun _ => again (.compLoop (twoSet el ta ia tb ib ca cb sco at_) 1 o d ev))
      else again (.compLoop (twoSet el ta ia tb ib ca cb sco at_) 1 o d ev)) := by rfl
/-- what a raised thing asks -/
abbrev out_ (G : Program) (w : World) (A : Around) (ev : Env) (Z : Result → Shared → Prop) : Value → Shared → Prop := notedBy (model G w) A ev fun x t => Z (.error x) t
theorem loop_b {s : Shared} (I : Nat → Shared → Prop)
    (step : ∀ k s, I k s → wpAny (model G w) A (pyNext o) (fun n s1 => match n with
      | none => Z (.ok .next) s1
      | some v => wpAny (model G w) A (letOwnedTupleGo tb o v) (fun _ s2 => wpAny (model G w) A (assign tb ev v) (fun _ s3 => wpAny (model G w) A (tests cb ev) (fun z s4 =>
          if z = true then wpAny (model G w) A (eval el ev) (fun y s5 => wpAny (model G w) A (call (.builtin "set.add") [d, y]) (fun _ s6 => ∃ j, j < k ∧ I j s6) (out_ G w A ev Z) s5) (out_ G w A ev Z) s4
          else ∃ j, j < k ∧ I j s4) (out_ G w A ev Z) s3) (out_ G w A ev Z) s2) (out_ G w A ev Z) s1) (out_ G w A ev Z) s)
    (k : Nat) (h : I k s) : codeAny (model G w) A (.compLoop (twoSet el ta ia tb ib ca cb sco at_) 1 o d ev) Z s := by
  refine codeAny_loop rfl I (fun k s hI => ?_) k h
  show wpAny _ A ((compTurn (twoSet el ta ia tb ib ca cb sco at_) 1 o d ev).onRaise (fun x => noteFrame x ev >>= fun _ => theTreesLotGoes x)) _ _ s
  refine wpAny_noted ?_
  rw [turn_b]
  refine wpAny_bind (wpAny_standAt (wpAny_bind (wpAny_mono (step k s hI) (fun n s1 q1 => ?_) fun _ _ x => x)))
  cases n with
  | none => exact wpAny_pure q1
  | some v =>
    refine wpAny_bind (wpAny_mono q1 (fun _ s2 q2 => wpAny_bind (wpAny_mono q2 (fun _ s3 q3 => wpAny_bind (wpAny_mono q3 (fun z s4 q4 => ?_) fun _ _ x => x)) fun _ _ x => x)) fun _ _ x => x)
    cases z with
    | false => exact wpAny_pure ⟨rfl, q4⟩
    | true => exact wpAny_bind (wpAny_bind (wpAny_mono q4 (fun y s5 q5 => wpAny_bind (wpAny_standAt (wpAny_bind (wpAny_mono q5 (fun _ s6 q6 => wpAny_pure (wpAny_pure ⟨rfl, q6⟩)) fun _ _ x => x)))) fun _ _ x => x))
theorem loop_a {s : Shared} (same : ∀ y, foldedSetIterable ib ev y = pure y) (I : Nat → Shared → Prop)
    (step : ∀ k s, I k s → wpAny (model G w) A (pyNext o) (fun n s1 => match n with
      | none => Z (.ok .next) s1
      | some v => wpAny (model G w) A (letOwnedTupleGo ta o v) (fun _ s2 => wpAny (model G w) A (assign ta ev v) (fun _ s3 => wpAny (model G w) A (tests ca ev) (fun z s4 =>
          if z = true then wpAny (model G w) A (eval ib ev) (fun y s5 => wpAny (model G w) A (pyIter y) (fun t s6 => codeAny (model G w) A (.compStart (twoSet el ta ia tb ib ca cb sco at_) 1 t d ev) (fun r s7 => match r with
            | .ok _ => ∃ j, j < k ∧ I j s7
            | .error _ => False) s6) (out_ G w A ev Z) s5) (out_ G w A ev Z) s4
          else ∃ j, j < k ∧ I j s4) (out_ G w A ev Z) s3) (out_ G w A ev Z) s2) (out_ G w A ev Z) s1) (out_ G w A ev Z) s)
    (k : Nat) (h : I k s) : codeAny (model G w) A (.compLoop (twoSet el ta ia tb ib ca cb sco at_) 0 o d ev) Z s := by
  refine codeAny_loop rfl I (fun k s hI => ?_) k h
  show wpAny _ A ((compTurn (twoSet el ta ia tb ib ca cb sco at_) 0 o d ev).onRaise (fun x => noteFrame x ev >>= fun _ => theTreesLotGoes x)) _ _ s
  refine wpAny_noted ?_
  rw [turn_a]
  refine wpAny_bind (wpAny_standAt (wpAny_bind (wpAny_mono (step k s hI) (fun n s1 q1 => ?_) fun _ _ x => x)))
  cases n with
  | none => exact wpAny_pure q1
  | some v =>
    refine wpAny_bind (wpAny_mono q1 (fun _ s2 q2 => wpAny_bind (wpAny_mono q2 (fun _ s3 q3 => wpAny_bind (wpAny_mono q3 (fun z s4 q4 => ?_) fun _ _ x => x)) fun _ _ x => x)) fun _ _ x => x)
    cases z with
    | false => exact wpAny_pure ⟨rfl, q4⟩
    | true =>
      refine wpAny_bind (wpAny_mono q4 (fun y s5 q5 => wpAny_bind (wpAny_standAt (wpAny_bind (wpAny_of_eq (same y) (wpAny_bind (wpAny_holding (wpAny_mono q5 (fun t s6 q6 => wpAny_bind (wpAny_runOwn ?_)) fun _ _ x => x)))))))  fun _ _ x => x)
      rw [Around.mark_none]
      refine codeAny_mono q6 fun r s7 q7 => ?_
      cases r with
      | error _ => exact q7.elim
      | ok _ =>
        first
          | exact wpAny_pure ⟨rfl, q7⟩
          | exact wpAny_bind (wpAny_pure (wpAny_pure ⟨rfl, q7⟩))
theorem start_b {s : Shared} (go : codeAny (model G w) A (.compLoop (twoSet el ta ia tb ib ca cb sco at_) 1 o d ev) Z s)
    (go2 : wpAny (model G w) A (pyIter o) (fun t s1 => codeAny (model G w) A (.compLoop (twoSet el ta ia tb ib ca cb sco at_) 1 t d ev) Z s1) (out_ G w A ev Z) s) :
    codeAny (model G w) A (.compStart (twoSet el ta ia tb ib ca cb sco at_) 1 o d ev) Z s := by
  refine codeAny_of_tree ?_
  show wpAny _ _ ((compStart (twoSet el ta ia tb ib ca cb sco at_) 1 o d ev).onRaise (fun x => noteFrame x ev >>= fun _ => standAt theWindowsPlace)) _ _ s
  refine wpAny_notedAt ?_
  unfold compStart
  show wpAny _ _ (ask >>= _) _ _ s
  refine wpAny_bind (wpAny_askSetting (wpAny_ite ?_))
  split
  case isTrue =>
    first
      | exact wpAny_pure (And.intro rfl go)
      | exact wpAny_bind (wpAny_pure (wpAny_pure (And.intro rfl go)))
  case isFalse =>
    refine wpAny_bind (wpAny_rule (wpAny_bind ?_))
    show wpAny _ _ (standAt ib.pos) _ _ s
    exact wpAny_standAt (wpAny_bind (wpAny_mono go2 (fun t s1 q => wpAny_pure (And.intro rfl q)) fun _ _ x => x))
end
end Ft

set_option Elab.async false
set_option linter.all false
set_option maxRecDepth 100000
set_option maxHeartbeats 4000000
namespace Ft
open PySem PySem.Spec PyProof.Rows L2
theorem put_ok {X : Cx} {pins : List (Addr × Obj)} {σ : L2.St} {H : Hp} {s : Shared} {E : Value → Shared → Prop} {D : Addr} {S : Int → Bool} {n : Nat} {k : Int} {tk : Tok} {Q : Value → Shared → Prop} (I : Inv X pins σ H s) (hD : H D = some (SetO X.w D S n)) (room : n + 1 < scanBound)
    (go : ∀ t, Inv X pins σ (upd H D (SetO X.w D (fun j => S j || decide (j = k)) (if S k = true then n else n + 1))) t → Q .none t) : wpAny (model X.prog X.w) X.A (call (.builtin "set.add") [.ref D, .int k tk]) Q E s := by
  refine setR_add (setO_get I hD) room fun h' sb new => go _ ?_
  obtain ⟨u, _, _, _, hu, _⟩ := id new
  exact I.write (e := D) (t' := s.toks + 1) (by rw [hD]; trivial) (.inl rfl) (fun b x hb hx => (sb.2 b hb).trans hx) ⟨u, hu⟩ (setO_new new)
/-- {el for ta in ia if .. for tb in ib if ..}, ints: D the new set -/
def tSet2 (w : World) (wi : TI) (ga : TG) (tca : TT) (wj : TI) (gb : TG) (tcb : TT) (te : TE) (all inn : List Nat) : TE := fun σ H Q => wi σ H fun J Ha => ∀ D, Ha D = none → ∃ W : Nat → Nat → Hp → Prop, (∃ m, W 0 m (upd Ha D (SetO w D (fun _ => false) 0))) ∧ ∀ i m Hb, W i m Hb →
  (J.stop i Hb ∧ Q (.ref D) Hb) ∨ (J.go i Hb ∧ ∃ N : Hp → Prop, (∀ Hc, N Hc → ∃ m', m' < m ∧ W (i + 1) m' Hc) ∧ ∀ x Hc, J.yld i Hb x Hc → ga x (wipe σ all) Hc fun σa Hd => wipe σa all = wipe σ all ∧ tca σa Hd fun z He =>
    if z = true then wj σa He fun K1 Hf => ∃ U : Nat → Nat → Hp → Prop, (∃ m, U 0 m Hf) ∧ ∀ j k Hg, U j k Hg →
      (K1.stop j Hg ∧ N Hg) ∨ (K1.go j Hg ∧ ∃ M : Hp → Prop, (∀ Hh, M Hh → ∃ k', k' < k ∧ U (j + 1) k' Hh) ∧ ∀ y Hh, K1.yld j Hg y Hh → gb y (wipe σa inn) Hh fun σb Hi => wipe σb inn = wipe σa inn ∧ tcb σb Hi fun z Hj =>
        if z = true then te σb Hj fun v Hk => ∃ (c : Int) (S : Int → Bool) (n : Nat), v = .int c ∧ Hk D = some (SetO w D S n) ∧ n + 1 < scanBound ∧ M (upd Hk D (SetO w D (fun j => S j || decide (j = c)) (if S c = true then n else n + 1))) else M Hj)
    else N He)
section
variable {X : Cx}
abbrev InBlk (X : Cx) (sco : Scope) (P : Cx → Prop) : Prop := ∀ (s : Shared) (H : Hp) (C : Addr) (cl : List (Str × Addr)) (fp : List Addr), P (X.blk s H sco (compEnvC sco cl C X.env) fp)
theorem set2_core {pins : List (Addr × Obj)} {s : Shared} {σ : L2.St} {H : Hp} {Q : VK} {el ta ia tb ib : Expr} {ca cb : List Expr} {sco : Scope} {own : List (Str × Nat)} {inn : List Nat} {at_ at2 : Pos} {wi wj : TI} {ga gb : TG} {tca tcb : TT} {te : TE} {use : Option (Value → Sem Unit)} {Qf : Value → Shared → Prop}
    (calm : X.calm = true) (nd : X.N.Nodup) (I : Inv X pins σ H s) (pi : PI X ta ia wi) (ok : BlkOk X.N X.env.scope sco own) (sub : ∀ i ∈ inn, i ∈ own.map (·.2)) (pga : InBlk X sco fun Y => PG Y ta ga) (pta : InBlk X sco fun Y => PTs Y ca tca) (pib : InBlk X sco fun Y => PI Y tb ib wj) (pgb : InBlk X sco fun Y => PG Y tb gb) (ptb : InBlk X sco fun Y => PTs Y cb tcb)
    (pel : InBlk X sco fun Y => PE Y el te) (fa : ∀ x, foldedSetIterable ia X.env x = pure x) (fb : ∀ env x, foldedSetIterable ib env x = pure x) (h : tSet2 X.w wi ga tca wj gb tcb te (own.map (·.2)) inn σ H Q)
    (back : ∀ D C t m Ht, Inv X pins σ Ht t → Q (.ref D) Ht → t.heap.Ns C m → FpOk X pins Ht C → compPost (model X.prog X.w) X.A X.xe use Qf (.ref D) C (.ok .next) t) :
    wpAny (model X.prog X.w) X.A (comprehension (twoSet el ta ia tb ib ca cb sco at_) sco X.env at2 (newSet (.type "set")) false (eval ia X.env) use) Qf X.xe s := by
  have cells : ∀ y ∈ sco.names, y.2 = .free → ∃ c, X.env.cells.lookup y.1 = some c := fun y hy e => (ok.free y hy e).elim (fun k => I.ok.has _ (.inl k)) (fun k => I.ok.has _ (.inr k))
  refine wpAny_comprehension_free (use := use) rfl fa (closure_ok cells) ok.kind (fun y hy e => by rw [ok.uniq y hy, e]) (thn (pi.run pins s σ H _ I h) fun xv s1 hx => thn hx fun itv s2 h2 => ?_)
  obtain ⟨it, fp, tn, J, Ha, e, Ia, T, sta, fpa, q⟩ := h2
  subst e
  refine PpSet.newSet_ok (newEnv_comp ?_)
  obtain ⟨D, eD⟩ : ∃ D, s2.heap.objs.size = D := ⟨_, rfl⟩
  have free : Ha D = none := Ia.hok.fresh (Nat.le_of_eq eD)
  obtain ⟨W, ⟨m0, w0⟩, turn⟩ := q D free
  obtain ⟨s3, es3⟩ : ∃ s3 : Shared, ({ s2 with heap := s2.heap.push { cls := .type "set", dict := none, data := .set #[] 0 (.fresh 0 0 (!X.w.params.followText "set-order")) } } : Shared) = s3 := ⟨_, rfl⟩
  have I3 : Inv X pins σ (upd Ha D (SetO X.w D (fun _ => false) 0)) s3 := by
    subst es3 eD
    exact Ia.laid (t' := s2.toks) (fun b o e => Heap.get?_push_of_some _ e) (Nat.le_refl _) (setO_new (setR_fresh X.w))
  have push3 : s3.heap = s2.heap.push { cls := .type "set", dict := none, data := .set #[] 0 (.fresh 0 0 (!X.w.params.followText "set-order")) } := by rw [← es3]
  have below : ∀ b ∈ fp, b < s2.heap.objs.size := fun b hb => by
    obtain ⟨_, e, _⟩ := T.obj _ _ sta b hb
    exact Heap.lt_size e
  have fp3 : ∀ b ∈ fp, FpOk X pins (upd Ha D (SetO X.w D (fun _ => false) 0)) b ∧ b < s3.heap.objs.size := fun b hb => by
    have lt := below b hb
    refine ⟨⟨by rw [upd_ne (by rw [← eD]; exact Nat.ne_of_lt lt)]; exact (fpa b hb).1, (fpa b hb).2⟩, ?_⟩
    rw [push3, Heap.size_push]
    exact Nat.lt_succ_of_lt lt
  have st3 : tn 0 s3.heap := T.keep _ _ _ sta fun b _ o e => by rw [push3]; exact Heap.get?_push_of_some _ e
  have I4 := block_start I3 ok nd fp3
  obtain ⟨cl, ecl⟩ : ∃ cl, cellsFrom (s3.heap.objs.size + 1) sco.names (cloFrom X.env.cells sco.names []) = cl := ⟨_, rfl⟩
  rw [ecl] at I4
  have pga := pga s3 (upd Ha D (SetO X.w D (fun _ => false) 0)) s3.heap.objs.size cl fp
  have pta := pta s3 (upd Ha D (SetO X.w D (fun _ => false) 0)) s3.heap.objs.size cl fp
  have pib := pib s3 (upd Ha D (SetO X.w D (fun _ => false) 0)) s3.heap.objs.size cl fp
  have pgb := pgb s3 (upd Ha D (SetO X.w D (fun _ => false) 0)) s3.heap.objs.size cl fp
  have ptb := ptb s3 (upd Ha D (SetO X.w D (fun _ => false) 0)) s3.heap.objs.size cl fp
  have pel := pel s3 (upd Ha D (SetO X.w D (fun _ => false) 0)) s3.heap.objs.size cl fp
  have none3 : ∀ b ∈ fp, (upd Ha D (SetO X.w D (fun _ => false) 0)) b = none := fun b hb => (fp3 b hb).1.1
  rw [eD, es3, ecl]
  obtain ⟨ev, eev⟩ : ∃ ev, compEnvC sco cl s3.heap.objs.size X.env = ev := ⟨_, rfl⟩
  have loc : ev.locals = s3.heap.objs.size := by
    subst eev
    rfl
  rw [eev] at I4 pga pta pib pgb ptb pel
  obtain ⟨H3, eH3⟩ : ∃ H3, upd Ha D (SetO X.w D (fun _ => false) 0) = H3 := ⟨_, rfl⟩
  rw [eH3] at I3 I4 pga pta pib pgb ptb pel w0 none3 fp3
  obtain ⟨s4, es4⟩ : ∃ s4 : Shared, ({ s3 with heap := pushCells (s3.heap.push { cls := .type "dict", data := .dict #[] }) sco.names } : Shared) = s4 := ⟨_, rfl⟩
  rw [es4] at I4
  have st4 : tn 0 s4.heap := T.keep _ _ _ st3 fun b _ o e => by rw [← es4]; exact pushCells_keeps _ _ _ _ (Heap.get?_push_of_some _ e)
  have calmF : ∀ {σt : L2.St} {Ht : Hp} {t : Shared}, Inv (X.blk s3 H3 sco ev fp) [] σt Ht t → (∀ b ∈ fp, Ht b = none) → ∀ b ∈ fp, FpOk (X.blk s3 H3 sco ev fp) [] Ht b := by
    intro σt Ht t It none b hb
    refine ⟨none b hb, (It.ok.exf b hb).1, It.ok.exfs b hb, .inl hb, (fun x c e => (It.ok.exf b hb).2 x c e), fun p hp => ?_⟩
    have : p ∈ ([] : List (Addr × Obj)) ++ [] := hp
    simp at this
  suffices z : codeAny (model X.prog X.w) X.A (.compStart (twoSet el ta ia tb ib ca cb sco at_) 0 (.ref it) (.ref D) ev) (compPost (model X.prog X.w) X.A X.xe use Qf (.ref D) s3.heap.objs.size) s4 by
    rw [← es4, ← eev] at z
    exact z
  obtain ⟨vs, evs⟩ : ∃ vs, own.map (·.2) = vs := ⟨_, rfl⟩
  rw [evs] at turn sub I4
  have loop : codeAny (model X.prog X.w) X.A (.compLoop (twoSet el ta ia tb ib ca cb sco at_) 0 (.ref it) (.ref D) ev) (compPost (model X.prog X.w) X.A X.xe use Qf (.ref D) s3.heap.objs.size) s4 := by
    refine loop_a (fb ev) (fun k t => ∃ i Ht, Inv (X.blk s3 H3 sco ev fp) [] (wipe σ vs) Ht t ∧ tn i t.heap ∧ (∀ b ∈ fp, Ht b = none) ∧ W i k Ht) ?_ m0 ⟨0, H3, I4, st4, none3, w0⟩
    rintro k s5 ⟨i, H5, I5, st5, n5, w5⟩
    rcases turn i k H5 w5 with ⟨stop, over⟩ | ⟨go, N, less, step⟩
    · refine thnF (T.done (X.blk s3 H3 sco ev fp) rfl rfl rfl calm i [] s5 _ H5 (fun _ _ => False) I5 (calmF I5 n5) st5 stop) fun r s6 ⟨er, I6⟩ => ?_
      subst er
      have I7 : Inv X pins σ H5 s6 := I3.call' (ch := fp) I6.os I6.base I6.hok I6.bare fun b hb => by
        obtain ⟨⟨_, f1, f2, f3, f4, f5⟩, _⟩ := fp3 b hb
        exact ⟨f3, f1, f4, f5⟩
      have freeC : H5 s3.heap.objs.size = none := by
        rw [← loc]
        exact I6.free
      obtain ⟨m, hm, _⟩ := I6.loc
      have hm : s6.heap.Ns ev.locals m := hm
      rw [loc] at hm
      exact back D s3.heap.objs.size s6 m H5 I7 over hm (I3.fpOk (Nat.le_refl _) freeC)
    · refine thnF (T.item (X.blk s3 H3 sco ev fp) rfl rfl rfl calm i [] s5 _ H5 (fun _ _ => False) I5 (calmF I5 n5) st5 go) fun r s6 ⟨u, er, h6⟩ => ?_
      subst er
      refine thnF h6 fun _ s7 ⟨x, H7, I7, r7, y7, st7, n7⟩ => ?_
      have I7p := I7.pinned (calmF I7 n7) (T.obj _ _ st7)
      refine thnF (pga.run _ s7 _ H7 x u _ I7p r7 (step x H7 y7)) fun _ s8 ⟨σ8, H8, I8, w8, q8⟩ => thnF (pta.run _ s8 σ8 H8 _ I8 q8) fun z s9 ⟨H9, I9, q9⟩ => ?_
      have len8 : (wipe σ vs).length = σ8.length := by rw [← w8, wipe_length]
      have know8 : ∀ (j : Nat) v, (wipe σ vs)[j]? = some (some v) → σ8[j]? = some (some v) := fun j v e => by
        rw [← w8] at e
        exact (wipe_some e).1
      have knowIn : ∀ (j : Nat) v, (wipe σ vs)[j]? = some (some v) → (wipe σ8 inn)[j]? = some (some v) := fun j v e => by
        rw [← w8] at e
        obtain ⟨e1, off⟩ := wipe_some e
        rw [wipe_out fun z => off (sub j z)]
        exact e1
      have fin : ∀ {σt : L2.St} {t : Shared} {Ht : Hp}, Inv (X.blk s3 H3 sco ev fp) ([] ++ pinsAt fp s7.heap) σt Ht t → (wipe σ vs).length = σt.length → (∀ (j : Nat) v, (wipe σ vs)[j]? = some (some v) → σt[j]? = some (some v)) → N Ht → ∃ m, m < k ∧ ∃ i Hu, Inv (X.blk s3 H3 sco ev fp) [] (wipe σ vs) Hu t ∧ tn i t.heap ∧ (∀ b ∈ fp, Hu b = none) ∧ W i m Hu := by
        intro σt t Ht It hlen hknow hN
        obtain ⟨m, lt, wm⟩ := less Ht hN
        have pinned : ∀ b ∈ fp, ∀ o, s7.heap.get? b = some o → t.heap.get? b = some o ∧ Ht b = none := fun b hb o e => by
          have z := It.pin (b, o) (List.mem_append_right _ (List.mem_append_right _ (mem_pinsAt hb e)))
          exact ⟨z.1, z.2.1⟩
        refine ⟨m, lt, i + 1, Ht, (It.unpinned (pins := [])).weak hlen hknow, T.keep _ _ _ st7 fun b hb o e => (pinned b hb o e).1, fun b hb => ?_, wm⟩
        obtain ⟨o, e, _⟩ := T.obj _ _ st7 b hb
        exact (pinned b hb o e).2
      cases z with
      | false =>
        simp only [Bool.false_eq_true, if_false] at q9 ⊢
        exact fin I9 len8 know8 q9
      | true =>
        simp only [if_true] at q9 ⊢
        refine thnF (pib.run _ s9 σ8 H9 _ I9 q9) fun xv s10 hx => thnF hx fun itv s11 h11 => ?_
        obtain ⟨it1, fp1, tn1, K1, Hf, ee, If, T1, stf, fpf, U, ⟨m1, u0⟩, turn1⟩ := h11
        subst ee
        have calmG : ∀ {Ht : Hp}, (∀ b ∈ fp1, Ht b = none) → ∀ b ∈ fp1, FpOk (X.blk s3 H3 sco ev fp) ([] ++ pinsAt fp s7.heap) Ht b := fun none b hb => ⟨none b hb, (fpf b hb).2⟩
        have inner : codeAny (model X.prog X.w) X.A (.compLoop (twoSet el ta ia tb ib ca cb sco at_) 1 (.ref it1) (.ref D) ev) (fun r t => match r with
            | .ok _ => ∃ m, m < k ∧ ∃ i Hu, Inv (X.blk s3 H3 sco ev fp) [] (wipe σ vs) Hu t ∧ tn i t.heap ∧ (∀ b ∈ fp, Hu b = none) ∧ W i m Hu
            | .error _ => False) s11 := by
          refine loop_b (fun kk t => ∃ j Ht, Inv (X.blk s3 H3 sco ev fp) ([] ++ pinsAt fp s7.heap) (wipe σ8 inn) Ht t ∧ tn1 j t.heap ∧ (∀ b ∈ fp1, Ht b = none) ∧ U j kk Ht) ?_ m1 ⟨0, Hf, If.weak (wipe_length _ _) (fun j v e => (wipe_some e).1), stf, (fun b hb => (fpf b hb).1), u0⟩
          rintro kk s12 ⟨j, H12, I12, st12, n12, u12⟩
          rcases turn1 j kk H12 u12 with ⟨stop1, over1⟩ | ⟨go1, M, less1, step1⟩
          · refine thnF (T1.done (X.blk s3 H3 sco ev fp) rfl rfl rfl calm j _ s12 (wipe σ8 inn) H12 (fun _ _ => False) I12 (calmG n12) st12 stop1) fun r s13 ⟨er, I13⟩ => ?_
            subst er
            exact fin I13 (len8.trans (wipe_length σ8 inn).symm) knowIn over1
          · refine thnF (T1.item (X.blk s3 H3 sco ev fp) rfl rfl rfl calm j _ s12 (wipe σ8 inn) H12 (fun _ _ => False) I12 (calmG n12) st12 go1) fun r s13 ⟨u1, er, h13⟩ => ?_
            subst er
            refine thnF h13 fun _ s14 ⟨x1, H14, I14, r14, y14, st14, n14⟩ => ?_
            have I14p := I14.pinned (calmG n14) (T1.obj _ _ st14)
            refine thnF (pgb.run _ s14 (wipe σ8 inn) H14 x1 u1 _ I14p r14 (step1 x1 H14 y14)) fun _ s15 ⟨σ15, H15, I15, w15, q15⟩ => thnF (ptb.run _ s15 σ15 H15 _ I15 q15) fun z1 s16 ⟨H16, I16, q16⟩ => ?_
            have fin1 : ∀ {t : Shared} {Ht : Hp}, Inv (X.blk s3 H3 sco ev fp) (([] ++ pinsAt fp s7.heap) ++ pinsAt fp1 s14.heap) σ15 Ht t → M Ht → ∃ m, m < kk ∧ ∃ j Hu, Inv (X.blk s3 H3 sco ev fp) ([] ++ pinsAt fp s7.heap) (wipe σ8 inn) Hu t ∧ tn1 j t.heap ∧ (∀ b ∈ fp1, Hu b = none) ∧ U j m Hu := by
              intro t Ht It hM
              obtain ⟨m, lt, um⟩ := less1 Ht hM
              have pinned : ∀ b ∈ fp1, ∀ o, s14.heap.get? b = some o → t.heap.get? b = some o ∧ Ht b = none := fun b hb o e => by
                have z := It.pin (b, o) (List.mem_append_right _ (List.mem_append_right _ (mem_pinsAt hb e)))
                exact ⟨z.1, z.2.1⟩
              refine ⟨m, lt, j + 1, Ht, It.unpinned.weak (by rw [← w15, wipe_length]) (fun j v e => by rw [← w15] at e; exact (wipe_some e).1), T1.keep _ _ _ st14 fun b hb o e => (pinned b hb o e).1, fun b hb => ?_, um⟩
              obtain ⟨o, e, _⟩ := T1.obj _ _ st14 b hb
              exact (pinned b hb o e).2
            cases z1 with
            | false =>
              simp only [Bool.false_eq_true, if_false] at q16 ⊢
              exact fin1 I16 q16
            | true =>
              simp only [if_true] at q16 ⊢
              refine thnF (pel.run _ s16 σ15 H16 _ I16 q16) fun v s17 ⟨yv, H17, I17, r17, cc, S0, n0, ey, hD17, room, hM⟩ => ?_
              subst ey
              obtain ⟨tk, rfl⟩ := r17
              exact put_ok (X := X.blk s3 H3 sco ev fp) I17 hD17 room fun t It => fin1 It hM
        exact start_b inner (T1.self X.A 0 _ _ _ stf inner)
  exact PpSet.codeAny_compStart_set loop (T.self X.A 0 _ _ _ st4 loop)
theorem pe_set2 {el ta ia tb ib : Expr} {ca cb : List Expr} {sco : Scope} {own : List (Str × Nat)} {inn : List Nat} {at_ : Pos} {wi wj : TI} {ga gb : TG} {tca tcb : TT} {te : TE} (calm : X.calm = true) (nd : X.N.Nodup) (pi : PI X ta ia wi) (ok : BlkOk X.N X.env.scope sco own) (sub : ∀ i ∈ inn, i ∈ own.map (·.2))
    (pga : InBlk X sco fun Y => PG Y ta ga) (pta : InBlk X sco fun Y => PTs Y ca tca) (pib : InBlk X sco fun Y => PI Y tb ib wj) (pgb : InBlk X sco fun Y => PG Y tb gb) (ptb : InBlk X sco fun Y => PTs Y cb tcb) (pel : InBlk X sco fun Y => PE Y el te)
    (fa : ∀ x, foldedSetIterable ia X.env x = pure x := by intro _; rfl) (fb : ∀ env x, foldedSetIterable ib env x = pure x := by intro _ _; rfl) : PE X (twoSet el ta ia tb ib ca cb sco at_) (tSet2 X.w wi ga tca wj gb tcb te (own.map (·.2)) inn) := by
  refine ⟨fun pins s σ H Q I h => ?_⟩
  rw [PpSet.eval_SetComp]
  refine set2_core calm nd I pi ok sub pga pta pib pgb ptb pel fa fb h fun D C t m Ht It q hm fc => ⟨m, hm, fun h'' sb => ?_⟩
  obtain ⟨f0, f1, _, f3, f4, f5⟩ := fc
  exact ⟨.ref D, Ht, It.turned (t' := t.toks) (fun b o hb e => (sb.2 b hb).trans e) f0 f1 f3 f4 f5, rfl, q⟩
end
end Ft

set_option Elab.async false
set_option linter.all false
set_option maxRecDepth 100000
set_option maxHeartbeats 8000000
namespace Ft
open PySem PySem.Spec PyProof.Rows L2
theorem piece_lt' {C : Chart} {a b : Nat} (ha : a < C.n) (h : b ∈ pieceOf C a) : b < C.n := by
  unfold pieceOf at h
  by_cases hw : a ∈ C.wished
  · rw [if_pos hw] at h
    rw [List.mem_singleton.mp h]
    exact ha
  · rw [if_neg hw] at h
    exact (those_mem.mp h).1
theorem len_of_lt' (l : List Nat) (n : Nat) (nd : l.Nodup) (b : ∀ x ∈ l, x < n) : l.length ≤ n := by
  have := nat_nodup_len l (List.range n) nd fun x hx => List.mem_range.mpr (b x hx)
  rwa [List.length_range] at this
section
variable {P : Program} {w : World} {K : PySem.W.Frag} {mg : Str → Option Value} {base : Heap} {ca : Str → Addr}
/-! ### made_standing, of data -/
theorem noPlace_cons {n i : Nat} {d : PyData} {ds : List PyData} : noPlace n i (d :: ds) = if rngD n d = true then noPlace n (i + 1) ds else some i := rfl
theorem standErr_not {n : Nat} {d : PyData} (h : isTup d = false) : standErr n d = some (-1) := by
  cases d <;> first | rfl | cases h
/-- what a function of a map and a standing owes -/
def DueS (K : PySem.W.Frag) (ca : Str → Addr) (H : Hp) (E : XK) (dc ds : PyData) (ok : Chart → List Nat → Prop) : Prop :=
  (∀ x i, mapErr dc = some (x, i) → Raised K ca H E (x, .int i)) ∧ ∀ C, dc = chartD C → C.Ok → (∀ i, standErr C.n ds = some i → Raised K ca H E ("BadStanding", .int i)) ∧ ∀ S, ds = lotD S → (∀ x ∈ S, x < C.n) → 1 ≤ S.length → S.length ≤ 3 → ok C S
def spX_made_standing (K : PySem.W.Frag) (ca : Str → Addr) : Sp := fun vs H Q E => ∃ (vc vt : V) (dc ds : PyData), vs = [vc, vt] ∧ Dp K H vc dc ∧ Dp K H vt ds ∧ DueS K ca H E dc ds fun C S => ∀ H', Same H H' → Q vt H'
theorem DueS.valid {K : PySem.W.Frag} {ca : Str → Addr} {H : Hp} {E : XK} {C : Chart} {S : List Nat} {ok : Chart → List Nat → Prop} (o : C.Ok) (lt : ∀ x ∈ S, x < C.n) (l1 : 1 ≤ S.length) (l3 : S.length ≤ 3) (q : ok C S) : DueS K ca H E (chartD C) (lotD S) ok :=
  ⟨fun x i h => (by rw [mapErr_chart o] at h; cases h), fun C' e _ => (by
    have z := chartD_inj e
    subst z
    exact ⟨fun i h => (by rw [standErr_ok lt l1 l3] at h; cases h), fun S' e' _ _ _ => (by
      have z := lotD_inj e'
      subst z
      exact q)⟩)⟩
def sp_made_standing (K : PySem.W.Frag) : Sp := fun vs H Q _ => ∃ (c t : Addr) (C : Chart) (S : List Nat), vs = [.ref c, .ref t] ∧ IsChart K H c C ∧ C.Ok ∧ SqT K H t (S.map vN) ∧ (∀ x ∈ S, x < C.n) ∧ 1 ≤ S.length ∧ S.length ≤ 3 ∧ ∀ H', Same H H' → Q (.ref t) H'
theorem calv_made_standing (c_made_standing : CalX P w K mg base 6 "made_standing" (spX_made_standing K ca)) : Cal P w K mg base 6 "made_standing" (sp_made_standing K) :=
  c_made_standing.valid fun vs H Q E ⟨c, t, C, S, e, isC, ok, hS, lt, l1, l3, q⟩ => ⟨_, _, _, _, e, dp_chart isC, dp_lot hS, .valid ok lt l1 l3 q⟩
/-! ### is_standing -/
/-! ### members -/
noncomputable def membersOf (C : Chart) (S : List Nat) : List Nat := those C.n fun b => ∃ a ∈ S, b ∈ pieceOf C a
def spX_members (K : PySem.W.Frag) (ca : Str → Addr) : Sp := fun vs H Q E => ∃ (vc vt : V) (dc ds : PyData), vs = [vc, vt] ∧ Dp K H vc dc ∧ Dp K H vt ds ∧ DueS K ca H E dc ds fun C S => ∀ q H', Same H H' → SqT K H' q ((membersOf C S).map vN) → Q (.ref q) H'
def sp_members (K : PySem.W.Frag) : Sp := fun vs H Q _ => ∃ (c t : Addr) (C : Chart) (S : List Nat), vs = [.ref c, .ref t] ∧ IsChart K H c C ∧ C.Ok ∧ SqT K H t (S.map vN) ∧ (∀ x ∈ S, x < C.n) ∧ 1 ≤ S.length ∧ S.length ≤ 3 ∧ ∀ q H', Same H H' → SqT K H' q ((membersOf C S).map vN) → Q (.ref q) H'
theorem calv_members (c_members : CalX P w K mg base 7 "members" (spX_members K ca)) : Cal P w K mg base 7 "members" (sp_members K) :=
  c_members.valid fun vs H Q E ⟨c, t, C, S, e, isC, ok, hS, lt, l1, l3, q⟩ => ⟨_, _, _, _, e, dp_chart isC, dp_lot hS, .valid ok lt l1 l3 q⟩
end
end Ft

set_option Elab.async false
set_option linter.all false
set_option maxRecDepth 100000
set_option maxHeartbeats 8000000
namespace Ft
open PySem PySem.Spec PyProof.Rows L2
section
variable {P : Program} {w : World} {K : PySem.W.Frag} {mg : Str → Option Value} {base : Heap} {t1 t2 : Tok}
/-! ### _law_map_lot -/
def sp_law_map_lot (K : PySem.W.Frag) : Sp := fun vs H Q _ => ∃ (p l c : Addr) (C : Chart), vs = [.ref p, .ref c] ∧ PoolAt H p l ∧ IsChart K H c C ∧ C.Ok ∧ ∀ (t : Addr) (U : List Nat) (H' : Hp), SqT K H' t (U.map vN) → Upto U C.n → PoolAt H' p l → Kp [p, l] H H' → Q (.ref t) H'
theorem cal_law_map_lot (T : Txt mg) (D : Def K mg "_law_map_lot" s_law_map_lot) (c_law_draw : Cal P w K mg base 2 "_law_draw" sp_law_draw) : Cal P w K mg base 3 "_law_map_lot" (sp_law_map_lot K) := by
  refine cal_of D sc_law_map_lot (fun _ _ _ _ _ _ us hl => match us, hl with | [_, _], _ => rfl) (fun vs H Q E h => ?_) (fun f cdv A outer s H vs Q E hr h => ?_)
  · obtain ⟨p, l, c, C, rfl, _⟩ := h
    rfl
  · obtain ⟨p, l, c, C, rfl, hP, ⟨r, wd, ts, hC⟩, ok, q⟩ := h
    have n60 := ok.n60
    refine ⟨_, (pss_cons (ps_set (i := 2) sc_law_map_lot.nd rfl (Or.inr rfl) (pe_c c_law_draw hr (by decide) (by rfl) (pa_cons (pv 0) (pa_cons pe_int pa_nil))))
      (pss_cons (ps_if (pt_cmpR op_eq (pv 2) pe_int (nomark _)) (pss_one (ps_ret (pe_ifExp (pt_cmpR op_eq (pe_c c_law_draw hr (by decide) (by rfl) (pa_cons (pv 0) (pa_cons pe_int pa_nil))) pe_int (nomark _)) (pe_tup pa_nil) (pe_tupRg rfl (by rfl) T.tuple (prg_1 (by rfl) T.range (pe_ix (show IxR _ (rIxT K) from ix_tup) (pv 1) pe_int (fun _ _ => rfl))))))) pss_nil)
      (pss_one (ps_ret (pe_callTy (show CallR _ _ (rTupleOf K) from call_tupleOf) (by rfl) T.tuple (by decide +kernel) (pa_cons (pe_lc (own := [("a", 3)]) rfl sc_law_map_lot.nd (pi_range1 (by rfl) T.range (pa_cons (pe_ix (show IxR _ (rIxT K) from ix_tup) (pv 1) pe_int (fun _ _ => rfl)) pa_nil)) (blkOk_by (N := ["pool", "chart", "way", "a"]) (sc := L2.defScope s_law_map_lot) (by decide +kernel)) (fun _ _ _ _ _ => (pg_name (i := 3) sc_law_map_lot.nd rfl (Or.inl rfl))) (fun _ _ _ _ _ => pts_one (pt_mid (pt_cond (pt_cmpR op_eq (pv 2) pe_int (nomark _)) (pt_cmpR op_gt (pe_c c_law_draw hr (by decide) (by rfl) (pa_cons (pv 0) (pa_cons pe_int pa_nil))) pe_int (nomark _)) (pt_cmpR op_eq (pe_c c_law_draw hr (by decide) (by rfl) (pa_cons (pv 0) (pa_cons (pe_op op_add pe_int (pv 2)) pa_nil))) pe_int (nomark _))))) (fun _ _ _ _ _ => (pv 3))) pa_nil)))))), ?_⟩
    refine ⟨_, rfl, p, l, 6, rfl, hP, by decide, by decide, fun way H1 hway hP1 k1 => ?_⟩
    have hC1 : ChartAt K H1 c C r wd ts := hC.keep k1 hP.lists
    refine ⟨_, rfl, rfl, _, rfl, ite_any (fun _ => ?_) (fun hw => ?_)⟩
    · refine ⟨_, rfl, p, l, 2, rfl, hP1, by decide, by decide, fun y H2 hy hP2 k2 => ?_⟩
      have hC2 : ChartAt K H2 c C r wd ts := hC1.keep k2 hP1.lists
      refine ⟨rfl, _, rfl, ite_any (fun _ => ?_) (fun _ => ?_)⟩
      · refine ⟨Nat.zero_le _, fun t ht => ?_⟩
        exact q t [] _ (.inl (.inl upd_same)) (Upto.nil _) (hP2.same (same_upd ht)) ((k1.trans k2).trans (Same.kp (same_upd ht)))
      · refine ⟨_, rfl, _, _, _, _, rfl, rfl, hC2.top, rfl, _, rfl, .of_le (by omega) (by omega) (by omega) (by omega), fun t ht => ?_⟩
        exact q t (List.range C.n) _ (.inl (.inl (by rw [upd_same, rgV_nat]))) (upto_range _) (hP2.same (same_upd ht)) ((k1.trans k2).trans (Same.kp (same_upd ht)))
    · refine ⟨_, rfl, _, _, _, _, rfl, rfl, hC1.top, rfl, _, rfl, by omega, by omega, fun e he => ?_⟩
      have epl : e ∉ [p, l] := hP1.free he
      refine lc_range (lo := 0) (n := C.n) (fun i H' => ∃ G : List Nat, Kp [p, l, e] H1 H' ∧ H' e = some (.lst (G.map vN)) ∧ PoolAt H' p l ∧ Upto G i)
        ⟨[], (fun b o x e' => by rw [upd_ne (ne_of_none e' he)]; exact e'), upd_same, hP1.same (same_upd he), Upto.nil 0⟩ ?_ ?_
      · rintro i H4 hi ⟨G, k4, hE, hP4, hG⟩
        have e0 : (0 : Int) + (i : Nat) = (i : Nat) := by omega
        refine ⟨rfl, ?_⟩
        rw [e0]
        refine ⟨fun _ H' => PoolAt H' p l ∧ Kp [p, l] H4 H', ⟨_, rfl, rfl, _, rfl, ite_any (fun _ => ?_) (fun _ => ?_)⟩, ?_⟩
        · exact ⟨_, rfl, p, l, 4, rfl, hP4, by decide, by decide, fun y H5 _ hP5 k5 => ⟨_, _, rfl, rfl, _, rfl, hP5, k5⟩⟩
        · exact ⟨_, rfl, _, rfl, _, _, rfl, rfl, p, l, 1 + way, rfl, hP4, by omega, by omega, fun y H5 _ hP5 k5 => ⟨rfl, _, rfl, hP5, k5⟩⟩
        rintro b H5 ⟨hP5, k5⟩
        have k45 : Kp [p, l, e] H1 H5 := fun b o nb eb => k5 _ _ (fun m => nb (by simp only [List.mem_cons, List.not_mem_nil, or_false] at m ⊢; rcases m with m | m <;> simp [m])) (k4 b o nb eb)
        have hE5 := k5 _ _ epl hE
        refine ite_any (fun _ => ?_) (fun _ => ?_)
        · refine ⟨_, rfl, _, hE5, by rw [List.length_map]; exact small1000 (by have := hG.len; omega), G ++ [i], ?_, by rw [upd_same, List.map_append]; rfl, hP5.set epl, hG.more⟩
          intro b o nb eb
          rw [upd_ne (fun z => nb (by rw [z]; simp))]
          exact k45 b o nb eb
        · exact ⟨G, k45, hE5, hP5, hG.wider⟩
      · rintro H4 ⟨G, k4, hE, hP4, hG⟩
        have k34 : Kp [p, l] H H4 := kp_made k1 he k4
        refine ⟨e, _, rfl, .inl ⟨.inl (.inl hE), fun t ht => ?_⟩⟩
        exact q t G _ (.inl (.inl upd_same)) hG (hP4.same (same_upd ht)) (k34.trans (Same.kp (same_upd ht)))
/-! ### _law_map_standing -/
def sp_law_map_standing (K : PySem.W.Frag) : Sp := fun vs H Q _ => ∃ (p l c : Addr) (C : Chart) (most : Nat), vs = [.ref p, .ref c, vN most] ∧ PoolAt H p l ∧ IsChart K H c C ∧ C.Ok ∧ 0 < C.n ∧ 0 < most ∧ most ≤ 9 ∧ ∀ (t : Addr) (S : List Nat) (H' : Hp), SqT K H' t (S.map vN) → (∀ x ∈ S, x < C.n) → 1 ≤ S.length → S.length ≤ most → PoolAt H' p l → Kp [p, l] H H' → Q (.ref t) H'
end
end Ft

set_option Elab.async false
set_option linter.all false
set_option maxRecDepth 100000
set_option maxHeartbeats 8000000
namespace Ft
open PySem PySem.Spec PyProof.Rows L2
def StrollRows (K : PySem.W.Frag) (H : Hp) (n : Nat) (Ws : List (Addr × List Nat)) : Prop := ∀ r ∈ Ws, SqT K H r.1 (r.2.map vN) ∧ 0 < r.2.length ∧ r.2.length ≤ 10 ∧ ∀ x ∈ r.2, x < n
section
variable {P : Program} {w : World} {K : PySem.W.Frag} {mg : Str → Option Value} {base : Heap} {ca : Str → Addr}
def sp_law (K : PySem.W.Frag) : Sp := fun vs H Q _ => ∃ (a : Addr) (ns : List Int), vs = [.ref a] ∧ SqL K H a (ns.map V.int) ∧ ∀ H', Q (.bl true) H'
theorem fn_law {f : Addr} {fd : FuncData} (T : Txt mg) (F : L2.Fun K "law" "law" s_law f fd) (c_law_pool : Cal P w K mg base 2 "_law_pool" (sp_law_pool K)) (c_law_draw : Cal P w K mg base 2 "_law_draw" sp_law_draw) (c_law_map_drawn : Cal P w K mg base 5 "_law_map_drawn" (sp_law_map_drawn K))
    (c_law_map_lot : Cal P w K mg base 3 "_law_map_lot" (sp_law_map_lot K)) (c_law_strolled : Cal P w K mg base 4 "_law_strolled" (sp_law_strolled K)) (c_law_all_told : CalG P w K mg base 9 "_law_all_told" (sp_law_all_told K))
    (c_law_planted : CalG P w K mg base 10 "_law_planted" (sp_law_planted K)) (c_law_no_arguments : CalG P w K mg base 8 "_law_no_arguments" (sp_law_no_arguments K)) : FnG P w K mg base 11 f fd ["script"] (sp_law K) := by
  refine gfun F sc_law (fun vs H Q E h => ?_) (fun cdv A outer s H vs Q E hg hr h => ?_)
  · obtain ⟨a, ns, rfl, _⟩ := h
    rfl
  · obtain ⟨sa, ns, rfl, hS, q⟩ := h
    have hU := hr.units
    have hG := hg
    refine ⟨_, (pss_cons (ps_set (i := 1) sc_law.nd rfl (Or.inr rfl) (pe_c c_law_pool hr (by decide) (by rfl) (pa_cons (pv 0) pa_nil)))
      (pss_cons (ps_set (i := 2) sc_law.nd rfl (Or.inr rfl) (pe_c c_law_map_drawn hr (by decide) (by rfl) (pa_cons (pv 1) (pa_cons pe_int pa_nil))))
      (pss_cons (ps_asg (pe_tup (pa_cons (pe_c c_law_map_lot hr (by decide) (by rfl) (pa_cons (pv 1) (pa_cons (pv 2) pa_nil))) (pa_cons (pe_c c_law_map_lot hr (by decide) (by rfl) (pa_cons (pv 1) (pa_cons (pv 2) pa_nil))) pa_nil))) (show PG _ _ (gTup K 2 _) from pg_tup (by rfl) (pgs_cons (pg_name (i := 3) sc_law.nd rfl (Or.inr rfl)) (pgs_cons (pg_name (i := 4) sc_law.nd rfl (Or.inl rfl)) pgs_nil))))
      (pss_cons (ps_set (i := 5) sc_law.nd rfl (Or.inl rfl) (pe_callTy (show CallR _ _ (rTupleOf K) from call_tupleOf) (by rfl) T.tuple (by decide +kernel) (pa_cons (pe_lc (own := [("p", 7)]) rfl sc_law.nd (show PI _ _ _ (iTup K _) from pi_tup (pv 4)) (blkOk_by (N := ["script", "pool", "chart", "lot", "some", "free", "ways", "p", "turn"]) (sc := L2.defScope s_law) (by decide +kernel)) (fun _ _ _ _ _ => (pg_name (i := 7) sc_law.nd rfl (Or.inl rfl))) (fun _ _ _ _ _ => pts_one (pt_cmpR (show OpR _ _ (rIn K true) from op_notIn_seq) (pv 7) (pe_ix (show IxR _ (rIxT K) from ix_tup) (pv 2) pe_int (fun _ _ => rfl)) (by rfl))) (fun _ _ _ _ _ => (pv 7))) pa_nil)))
      (pss_cons (ps_set (i := 6) sc_law.nd rfl (Or.inl rfl) (pe_lst pa_nil))
      (pss_cons (ps_if (pt_cmpR (show OpR _ _ (rNeD K) from op_neD hU) (pv 3) (pe_tup pa_nil) (nomark _)) (pss_one (ps_setLc (i := 6) (own := [("turn", 8)]) rfl sc_law.nd rfl rfl (sw_true rfl rfl rfl (by decide +kernel)) (pi_range1 (by rfl) T.range (pa_cons (pe_c c_law_draw hr (by decide) (by rfl) (pa_cons (pv 1) (pa_cons pe_int pa_nil))) pa_nil)) (blkOk_by (N := ["script", "pool", "chart", "lot", "some", "free", "ways", "p", "turn"]) (sc := L2.defScope s_law) (by decide +kernel)) (fun _ _ _ _ _ => (pg_name (i := 8) sc_law.nd rfl (Or.inl rfl))) (fun _ _ _ _ _ => pts_nil) (fun _ _ _ _ _ => (pe_c c_law_strolled hr (by decide) (by rfl) (pa_cons (pv 1) (pa_cons (pv 2) (pa_cons (pv 3) pa_nil))))))) pss_nil)
      (pss_cons (ps_if (pt_not (pt_val (pe_g c_law_all_told hG hr (by decide) (by rfl) (pa_cons (pv 1) (pa_cons (pv 2) (pa_cons (pv 3) (pa_cons (pv 5) (pa_cons (pe_callTy (show CallR _ _ (rTupleOf K) from call_tupleOf) (by rfl) T.tuple (by decide +kernel) (pa_cons (pv 6) pa_nil)) pa_nil)))))))) (pss_one (ps_ret pe_bl)) pss_nil)
      (pss_one (ps_ret (pe_and (pe_g c_law_planted hG hr (by decide) (by rfl) (pa_cons (pv 1) pa_nil)) (pe_one (pe_g c_law_no_arguments hG hr (by decide) (by rfl) (pa_cons (pv 2) (pa_cons (pv 3) (pa_cons (pv 5) pa_nil))))))))))))))), ?_⟩
    refine ⟨_, rfl, sa, ns, rfl, hS, fun p l H1 _ _ _ hP1 => ?_⟩
    refine ⟨_, rfl, p, l, 9, rfl, hP1, by decide, fun c C H2 hC2 ok n9 few hP2 _ => ?_⟩
    have n60 := ok.n60
    refine ⟨_, rfl, _, rfl, p, l, c, C, rfl, hP2, hC2, ok, fun t1 U1 H3 hT1 up1 hP3 k3 => ?_⟩
    have hC3 := hC2.keep k3 hP2.lists
    refine ⟨_, rfl, _, rfl, p, l, c, C, rfl, hP3, hC3, ok, fun t2 U2 H4 hT2 up2 hP4 k4 => ?_⟩
    have hC4 := hC3.keep k4 hP3.lists
    have hT14 := k4.sqT hP3.lists hT1
    refine ⟨by show 2 ≤ sizeLine; decide, fun tp htp => ?_⟩
    have s5 : Same H4 (upd H4 tp (.tup [.ref t1, .ref t2])) := same_upd htp
    have hTp : (upd H4 tp (.tup [.ref t1, .ref t2])) tp = some (.tup [.ref t1, .ref t2]) := upd_same
    generalize upd H4 tp (.tup [.ref t1, .ref t2]) = H5 at s5 hTp
    refine ⟨tp, _, rfl, .inl (.inl hTp), rfl, _, _, rfl, _, _, rfl, rfl, ?_⟩
    obtain ⟨r, wd, ts, hC5⟩ := hC4.same s5
    have hT25 := Same.sqT s5 hT2
    refine ⟨_, rfl, t2, rfl, ⟨_, hT25⟩, fun g hg => ?_⟩
    have keep : ∀ {H' : Hp}, Kp [g] H5 H' → Same H5 H' := fun {H'} k b o e' => k b o (fun m => by rw [List.mem_singleton.mp m, hg] at e'; cases e') e'
    have lU2 : U2.length ≤ 60 := by
      have := up_len up2.up up2.lt
      omega
    refine lc_tup (K := K) (a := t2) (xs := U2.map vN) (fun j H' => Kp [g] H5 H' ∧ H' g = some (.lst (((U2.take j).filter fun x => !decide (x ∈ C.wished)).map vN)))
      ⟨(fun b o x e' => by rw [upd_ne (ne_of_none e' hg)]; exact e'), upd_same⟩ (fun j H' _ ⟨k, _⟩ => Same.sqT (keep k) hT25) ?_ ?_
    · rintro j x H6 hx ⟨k6, hG6⟩
      obtain ⟨y, hy, rfl⟩ := get_map hx
      have hC6 := hC5.same (keep k6)
      refine ⟨rfl, ?_⟩
      refine ⟨_, rfl, _, rfl, _, _, _, _, rfl, rfl, hC6.top, rfl, wd, _, rfl, .inr hC6.wis, rfl, all_vN C.wished, _, rfl, ?_⟩
      show if (!inV (vN y) (C.wished.map vN)) = true then _ else _
      rw [in_vN]
      have hf : (U2.take (j + 1)).filter (fun x => !decide (x ∈ C.wished)) = (U2.take j).filter (fun x => !decide (x ∈ C.wished)) ++ (if (!decide (y ∈ C.wished)) = true then [y] else []) := by
        rw [take_more hy, List.filter_append, List.filter_cons, List.filter_nil]
      cases e1 : decide (y ∈ C.wished) with
      | true =>
        rw [e1, if_neg (by simp), List.append_nil] at hf
        exact iteF ⟨k6, by rw [hf]; exact hG6⟩
      | false =>
        rw [e1, if_pos (by rfl)] at hf
        refine iteT ⟨_, rfl, _, hG6, ?_, ?_, by rw [upd_same, hf, List.map_append]; rfl⟩
        · have := List.length_filter_le (fun x => !decide (x ∈ C.wished)) (U2.take j)
          rw [List.length_take] at this
          rw [List.length_map]
          exact small1000 (by omega)
        · intro b o nb eb
          rw [upd_ne (fun z => nb (by rw [z]; simp))]
          exact k6 b o nb eb
    rintro H6 ⟨k6, hG6⟩
    rw [List.length_map, List.take_length] at hG6
    have s6 := keep k6
    obtain ⟨F0, eF0⟩ : ∃ F0, U2.filter (fun x => !decide (x ∈ C.wished)) = F0 := ⟨_, rfl⟩
    rw [eF0] at hG6
    refine ⟨g, _, rfl, .inl ⟨.inl (.inl hG6), fun tf htf => ?_⟩⟩
    have s7 : Same H6 (upd H6 tf (.tup (F0.map vN))) := same_upd htf
    have hTf : (upd H6 tf (.tup (F0.map vN))) tf = some (.tup (F0.map vN)) := upd_same
    generalize upd H6 tf (.tup (F0.map vN)) = H7 at s7 hTf
    have okF : freeD C (lotD F0) = true := by
      rw [← eF0]
      refine free_mk (up2.up.filter _) (fun x hx => up2.lt x (List.mem_filter.mp hx).1) (fun x hx hw => ?_)
      have := (List.mem_filter.mp hx).2
      rw [decide_eq_true hw] at this
      cases this
    have okS : lotOk C.n (lotD U1) = true := lotOk_lot up1.up up1.lt
    refine ⟨Nat.zero_le _, fun w0 hw0 => ?_⟩
    have s8 : Same H7 (upd H7 w0 (.lst [])) := same_upd hw0
    have hW8 : (upd H7 w0 (.lst [])) w0 = some (.lst []) := upd_same
    generalize upd H7 w0 (.lst []) = H8 at s8 hW8
    have s48 := ((s5.trans s6).trans s7).trans s8
    have hP8 := hP4.same s48
    have hC8 := hC4.same s48
    have hT18 := Same.sqT s48 hT14
    have hTf8 := s8 _ _ hTf
    refine at_name ?_
    dsimp only
    refine seq_join (M := fun σ H' => ∃ (ww : Addr) (Ws : List (Addr × List Nat)), σ = [some (.ref sa), some (.ref p), some (.ref c), some (.ref t1), some (.ref t2), some (.ref tf), some (.ref ww), none, none] ∧ PoolAt H' p l ∧ Kp [p, l] H8 H' ∧ H' ww = some (.lst (Ws.map fun r => V.ref r.1)) ∧ StrollRows K H' C.n Ws ∧ Ws.length ≤ 3) (fun σ9 H9 h9 => ?_) (fun nxt => ?_)
    · obtain ⟨ww, Ws, rfl, hP9, k9, hW9, hR9, l3⟩ := h9
      refine ⟨_, rfl, _, rfl, _, rfl, _, rfl, _, rfl, ww, _, rfl, .inl ⟨.inl (.inl hW9), fun t3 ht3 => ?_⟩⟩
      have s10 : Same H9 (upd H9 t3 (.tup (Ws.map fun r => V.ref r.1))) := same_upd ht3
      have hT10 : (upd H9 t3 (.tup (Ws.map fun r => V.ref r.1))) t3 = some (.tup (Ws.map fun r => V.ref r.1)) := upd_same
      generalize upd H9 t3 (.tup (Ws.map fun r => V.ref r.1)) = H10 at s10 hT10
      have k10 : Kp [p, l] H8 H10 := k9.trans (Same.kp s10)
      have hP10 := hP9.same s10
      have hC10 := hC8.keep k10 hP8.lists
      have hT110 := k10.sqT hP8.lists hT18
      have hTf10 : SqT K H10 tf (F0.map vN) := k10.sqT hP8.lists (.inl (.inl hTf8))
      refine ⟨p, l, c, t1, tf, C, U1, F0, .ref t3, Ws.map fun r => lotD r.2, rfl, hP10, hC10, ok, few, hT110, okS, hTf10, okF, .tup (.inl (.inl hT10)) (rows_dpL fun r m => Same.sqT s10 (hR9 r m).1), by rw [List.length_map]; omega, fun d hd => ?_, fun H11 hP11 k11 => ?_⟩
      · obtain ⟨r', hr', rfl⟩ := List.mem_map.mp hd
        exact ⟨r'.2, rfl, (hR9 r' hr').2⟩
      · refine ⟨_, rfl, iteF ?_⟩
        have k811 := k10.trans k11
        have hC11 := hC8.keep k811 hP8.lists
        refine ⟨_, rfl, p, l, rfl, hP11, fun H12 hP12 k12 => ?_⟩
        have k812 := k811.trans k12
        exact ⟨_, rfl, iteT ⟨_, rfl, _, rfl, _, rfl, c, t1, tf, C, U1, F0, rfl, hC8.keep k812 hP8.lists, ok, few, k812.sqT hP8.lists hT18, okS, k812.sqT hP8.lists (.inl (.inl hTf8)), okF, fun H13 _ => q H13⟩⟩
    · refine ⟨_, rfl, Nat.zero_le _, fun e0 he0 => ?_⟩
      have s9 : Same H8 (upd H8 e0 (.tup [])) := same_upd he0
      have hE9 : (upd H8 e0 (.tup [])) e0 = some (.tup []) := upd_same
      generalize upd H8 e0 (.tup []) = H9 at s9 hE9
      have lU1 : U1.length ≤ 9 := by
        have := up_len up1.up up1.lt
        omega
      have hT19 := Same.sqT s9 hT18
      refine ⟨lotD U1, .tuple [], dp_lot hT19, .tup (.inl (.inl hE9)) .nil, (sm_lot (by omega)).up.fine.sh, rfl, _, rfl, ?_⟩
      unfold lotD
      rw [eqv_nilT]
      have hP9 := hP8.same s9
      have k9 : Kp [p, l] H8 H9 := Same.kp s9
      by_cases h0 : U1.length = 0
      · have : U1 = [] := List.length_eq_zero_iff.mp h0
        rw [this]
        exact iteF (nxt _ _ ⟨w0, [], rfl, hP9, k9, s9 _ _ hW8, (fun _ h => nomatch h), Nat.zero_le _⟩)
      · have ne : (U1.map nD).isEmpty = false := by
          cases U1 with
          | nil => exact absurd rfl h0
          | cons a U1 => rfl
        rw [ne]
        refine iteT ?_
        refine ⟨_, rfl, p, l, 4, rfl, hP9, by decide, by decide, fun m H10 hm hP10 k10 => ?_⟩
        refine ⟨_, rfl, by omega, by omega, fun g2 hg2 => ?_⟩
        have g2pl : g2 ∉ [p, l] := hP10.free hg2
        have k810 := k9.trans k10
        have s11 : Same H10 (upd H10 g2 (.lst [])) := same_upd hg2
        refine lc_range (lo := 0) (n := m) (fun i H' => ∃ Ws : List (Addr × List Nat), PoolAt H' p l ∧ Kp [p, l] H10 H' ∧ H' g2 = some (.lst (Ws.map fun r => V.ref r.1)) ∧ StrollRows K H' C.n Ws ∧ Ws.length = i)
          ⟨[], hP10.same s11, Same.kp s11, upd_same, (fun _ h => nomatch h), rfl⟩ ?_ ?_
        · rintro i H11 hi ⟨Ws, hP11, k11, hG11, hR11, lW⟩
          have k811 := k810.trans k11
          refine ⟨rfl, ?_⟩
          refine ⟨_, rfl, _, rfl, _, rfl, p, l, c, t1, C, U1, rfl, hP11, hC8.keep k811 hP8.lists, ok, k811.sqT hP8.lists hT18, by omega, by omega, up1.lt, fun t L H12 hT l0 l10 inL hP12 k12 => ?_⟩
          have hG12 := k12 _ _ g2pl hG11
          refine ⟨_, hG12, by rw [List.length_map]; exact small1000 (by omega), Ws ++ [(t, L)], hP12.set g2pl, fun b o nb eb => ?_, by rw [upd_same, List.map_append]; rfl, fun r' hr' => ?_, by rw [List.length_append, lW]; rfl⟩
          · rw [upd_ne (ne_of_none eb hg2)]
            exact k12 _ _ nb (k11 b o nb eb)
          · rcases List.mem_append.mp hr' with hr' | hr'
            · exact ⟨kp_set.sqT (lists_one hG12) (k12.sqT hP11.lists (hR11 r' hr').1), (hR11 r' hr').2⟩
            · rw [List.mem_singleton.mp hr']
              exact ⟨kp_set.sqT (lists_one hG12) hT, l0, l10, inL⟩
        · rintro H11 ⟨Ws, hP11, k11, hG11, hR11, lW⟩
          exact nxt _ _ ⟨g2, Ws, rfl, hP11, k810.trans k11, hG11, hR11, by omega⟩
end
end Ft

set_option Elab.async false
set_option linter.all false
set_option maxRecDepth 100000
set_option maxHeartbeats 8000000
namespace Ft
open PySem PySem.Spec PyProof.Rows L2
/-! ### all together -/
theorem def_mk {K : PySem.W.Frag} {h : Heap} {mg : Str → Option Value} {x : Str} {st : Stmt} {f : Addr} {oc : Value} {od an : Option Addr} {osl : Array (Option Value)} {kV doc pm cdv ct : Value} (X : K.In h) (G : h.Ns mainGlobals mg) (a : PySem.W.nsIn K mainGlobals x = some (some (.ref f)))
    (l : K.lookup f = some ⟨oc, od, .func (PySem.W.fnOf x x (L2.defArgs st) (L2.defBody st) (L2.defScope st) .none kV doc pm an cdv ct), osl⟩) (c : PySem.W.codeIn K cdv x = true) (k : PySem.W.keepIn K (.ref f) = true) : Def K mg x st :=
  ⟨f, _, fun_mk l c k, PySem.W.mg_of X G a⟩
theorem txt_mk {K : PySem.W.Frag} {h : Heap} {mg : Str → Option Value} (X : K.In h) (G : h.Ns mainGlobals mg) (z0 : PySem.W.nsIn K mainGlobals "isinstance" = some none) (z1 : PySem.W.nsIn K mainGlobals "len" = some none) (z2 : PySem.W.nsIn K mainGlobals "tuple" = some none) (z3 : PySem.W.nsIn K mainGlobals "int" = some none) (z4 : PySem.W.nsIn K mainGlobals "bool" = some none) (z5 : PySem.W.nsIn K mainGlobals "enumerate" = some none) (z6 : PySem.W.nsIn K mainGlobals "range" = some none) (z7 : PySem.W.nsIn K mainGlobals "set" = some none) (z8 : PySem.W.nsIn K mainGlobals "list" = some none) (z9 : PySem.W.nsIn K mainGlobals "sorted" = some none) (z10 : PySem.W.nsIn K mainGlobals "min" = some none) (z11 : PySem.W.nsIn K mainGlobals "max" = some none) (z12 : PySem.W.nsIn K mainGlobals "repr" = some none) (z13 : PySem.W.nsIn K mainGlobals "dict" = some none) (z14 : PySem.W.nsIn K mainGlobals "str" = some none) (z15 : PySem.W.nsIn K mainGlobals "any" = some none) (z16 : PySem.W.nsIn K mainGlobals "all" = some none) (z17 : PySem.W.nsIn K mainGlobals "sum" = some none) (z18 : PySem.W.nsIn K mainGlobals "zip" = some none) : Txt mg :=
  ⟨PySem.W.mg_none_of X G z0, PySem.W.mg_none_of X G z1, PySem.W.mg_none_of X G z2, PySem.W.mg_none_of X G z3, PySem.W.mg_none_of X G z4, PySem.W.mg_none_of X G z5, PySem.W.mg_none_of X G z6, PySem.W.mg_none_of X G z7, PySem.W.mg_none_of X G z8, PySem.W.mg_none_of X G z9, PySem.W.mg_none_of X G z10, PySem.W.mg_none_of X G z11, PySem.W.mg_none_of X G z12, PySem.W.mg_none_of X G z13, PySem.W.mg_none_of X G z14, PySem.W.mg_none_of X G z15, PySem.W.mg_none_of X G z16, PySem.W.mg_none_of X G z17, PySem.W.mg_none_of X G z18⟩
theorem mgI_mk {K : PySem.W.Frag} {h : Heap} {mg : Str → Option Value} {x : Str} {n : Int} {t : Tok} (X : K.In h) (G : h.Ns mainGlobals mg) (a : PySem.W.nsIn K mainGlobals x = some (some (.int n t))) : MgI mg x n := ⟨t, PySem.W.mg_of X G a⟩
theorem ok_init {P : Program} {w : World} {K : PySem.W.Frag} {mg : Str → Option Value} {base : Heap} {fI : Addr} {fd : FuncData} (F : L2.Fun K "__init__" "Refused.__init__" s_init fI fd) : FnOk P w K mg base L2.CX0 1 fI fd ["self", "what"] (spInit K) := by
  refine F.ok sc_init (fun vs H Q E h => ?_) (fun cdv A outer s H vs Q E hr h => ?_)
  · obtain ⟨a, C, v, rfl, _⟩ := h
    rfl
  · obtain ⟨a, C, v, rfl, oe, no, ha, q⟩ := h
    refine ⟨_, (pss_one (ps_ost (pv 0) (pv 1))), ?_⟩
    exact ⟨_, rfl, _, rfl, a, C, rfl, oe, no, .inl ⟨ha, fun dx n ne => q dx n ne⟩⟩
/-- what the head tells of a class of errors -/
structure ErrH (K : PySem.W.Frag) (C fI : Addr) (x : Str) : Prop where
  a : PySem.W.nsIn K mainGlobals x = some (some (.ref C))
  cl : ∃ nm q N bs bm sn sub ab col dd k0 k1 k2 k3 k5, K.lookup C = some (excClassObj nm q C N bs bm true sn sub ab col dd k0 k1 k2 k3 k5 "ValueError.__new__") ∧ PySem.HandSPX.refsVE bm = true
  sa : PySem.W.findIn K (.ref C) "__setattr__" = some (some (.builtin "object.__setattr__"))
  ga : PySem.W.findIn K (.ref C) "__getattribute__" = some (some (.builtin "BaseException.__getattribute__"))
  gg : PySem.W.findIn K (.ref C) "__getattr__" = some none
  nw : PySem.W.findIn K (.ref C) "what" = some none
  ii : PySem.W.findIn K (.ref C) "__init__" = some (some (.ref fI))
  ex : PySem.W.subIn K (.ref C) (.type "BaseException") = some true
  ty : PySem.W.typeIn K (.ref C) = some (.type "type")
  kp : PySem.W.keepIn K (.ref C) = true
  hd : PySem.W.hasDictIn K C = true
  ic : PySem.W.isClsIn K C = true
theorem errH_mk {K : PySem.W.Frag} {C fI : Addr} {x : Str} {nm q : Str} {N : Addr} {bs bm : List Value} {sn : List Str} {sub : List Value} {ab : Bool} {col : Option Bool} {dd : Option Addr} {k0 k1 k2 k3 k5 : Option Value}
    (a : PySem.W.nsIn K mainGlobals x = some (some (.ref C))) (cl : K.lookup C = some (excClassObj nm q C N bs bm true sn sub ab col dd k0 k1 k2 k3 k5 "ValueError.__new__")) (r : PySem.HandSPX.refsVE bm = true)
    (sa : PySem.W.findIn K (.ref C) "__setattr__" = some (some (.builtin "object.__setattr__"))) (ga : PySem.W.findIn K (.ref C) "__getattribute__" = some (some (.builtin "BaseException.__getattribute__"))) (gg : PySem.W.findIn K (.ref C) "__getattr__" = some none) (nw : PySem.W.findIn K (.ref C) "what" = some none)
    (ii : PySem.W.findIn K (.ref C) "__init__" = some (some (.ref fI))) (ex : PySem.W.subIn K (.ref C) (.type "BaseException") = some true) (ty : PySem.W.typeIn K (.ref C) = some (.type "type")) (kp : PySem.W.keepIn K (.ref C) = true) (hd : PySem.W.hasDictIn K C = true) (ic : PySem.W.isClsIn K C = true) : ErrH K C fI x :=
  ⟨a, ⟨nm, q, N, bs, bm, sn, sub, ab, col, dd, k0, k1, k2, k3, k5, cl, r⟩, sa, ga, gg, nw, ii, ex, ty, kp, hd, ic⟩
theorem er_mk {P : Program} {w : World} {K : PySem.W.Frag} {h : Heap} {mg : Str → Option Value} {base : Heap} {ca : Str → Addr} {x : Str} {C fI : Addr} {fd : FuncData} (X : K.In h) (G : h.Ns mainGlobals mg) (e : ErrH K C fI x) (tI : PySem.W.typeIn K (.ref fI) = some (.type "function")) (F : L2.Fun K "__init__" "Refused.__init__" s_init fI fd)
    (b : Binds K fd ["self", "what"] []) (hc : ca x = C) : Er P w K mg base ca x := by
  subst hc
  exact ⟨fI, fd, ⟨PySem.W.mg_of X G e.a, ⟨e.cl, e.sa, e.ex, e.ty, e.kp⟩, e.ii, tI, e.nw, ⟨e.ga, e.gg, e.ex, e.hd⟩⟩, ok_init F, b⟩
theorem exm_mk {K : PySem.W.Frag} {ca : Str → Addr} {x y : Str} {C D fI fJ : Addr} {b : Bool} (e : ErrH K D fJ y) (h : PySem.W.subIn K (.ref C) (.ref D) = some b) (hc : ca x = C) (hd : ca y = D) : Exm K ca x y b := by
  subst hc hd
  unfold Exm
  have h1 : (PySem.W.subIn K (.ref (ca y)) (.type "BaseException") == some true) = true := by rw [e.ex]; rfl
  have h2 : ((PySem.W.clsIn K (ca y)).isSome && PySem.W.typeIn K (.ref (ca y)) == some (.type "type")) = true := by
    have z : (PySem.W.clsIn K (ca y)).isSome = true := e.ic
    rw [z, e.ty]
    rfl
  show (if (PySem.W.subIn K (.ref (ca y)) (.type "BaseException") == some true) = true then (if ((PySem.W.clsIn K (ca y)).isSome && PySem.W.typeIn K (.ref (ca y)) == some (.type "type")) = true then PySem.W.subIn K (.ref (ca x)) (.ref (ca y)) else none) else none) = some b
  rw [if_pos h1, if_pos h2]
  exact h
def caOf (l : List (Str × Addr)) (x : Str) : Addr := (l.lookup x).getD 0
theorem all_mk {l : PySem.W.OpenLaw} {w : World} {K : PySem.W.Frag} {h : Heap} {mg : Str → Option Value} {fa f : Addr} {oc : Value} {od an : Option Addr} {osl : Array (Option Value)} {kV doc pm cdv ct : Value} {fI : Addr} {fdI : FuncData} {C_BadMap : Addr} {C_BadWish : Addr} {C_Refused : Addr} (X : K.In h) (G : h.Ns mainGlobals mg) (hfa : mg "law" = some (.ref fa)) (T : Txt mg)
    (D_law_pool : Def K mg "_law_pool" s_law_pool) (D_law_draw : Def K mg "_law_draw" s_law_draw) (D_law_turned : Def K mg "_law_turned" s_law_turned) (D_law_map_named : Def K mg "_law_map_named" s_law_map_named) (D_law_map_some_wished : Def K mg "_law_map_some_wished" s_law_map_some_wished) (D_law_map_drawn : Def K mg "_law_map_drawn" s_law_map_drawn) (D_law_map_lot : Def K mg "_law_map_lot" s_law_map_lot) (D_law_pick : Def K mg "_law_pick" s_law_pick) (D_law_strolled : Def K mg "_law_strolled" s_law_strolled) (D_law_bent_way : Def K mg "_law_bent_way" s_law_bent_way) (D_is_number : Def K mg "is_number" s_is_number) (D_number_within : Def K mg "number_within" s_number_within) (D_road_fits : Def K mg "road_fits" s_road_fits) (D_check_roads : Def K mg "check_roads" s_check_roads) (D_first_bad_place : Def K mg "first_bad_place" s_first_bad_place) (D_made_map : Def K mg "made_map" s_made_map) (D_is_map : Def K mg "is_map" s_is_map) (D_lot_fits : Def K mg "lot_fits" s_lot_fits) (D_free_fits : Def K mg "free_fits" s_free_fits) (D_place_fits : Def K mg "place_fits" s_place_fits) (D_way_fits : Def K mg "way_fits" s_way_fits) (D_unwished_of : Def K mg "unwished_of" s_unwished_of) (D_ways_fit : Def K mg "ways_fit" s_ways_fit) (D_ways_right : Def K mg "ways_right" s_ways_right) (D_law_way_is_way : Def K mg "_law_way_is_way" s_law_way_is_way) (D_law_way_apart : Def K mg "_law_way_apart" s_law_way_apart) (D_law_way_judged : Def K mg "_law_way_judged" s_law_way_judged) (D_law_told : Def K mg "_law_told" s_law_told) (D_law_all_told : Def K mg "_law_all_told" s_law_all_told) (D_law_map_planted : Def K mg "_law_map_planted" s_law_map_planted) (D_law_planted : Def K mg "_law_planted" s_law_planted) (D_law_way_no_charts : Def K mg "_law_way_no_charts" s_law_way_no_charts) (D_law_way_no_lots : Def K mg "_law_way_no_lots" s_law_way_no_lots) (D_law_no_arguments : Def K mg "_law_no_arguments" s_law_no_arguments)
    (m_MOST_PLACES : MgI mg "MOST_PLACES" 60) (m_MOST_ROADS : MgI mg "MOST_ROADS" 240) (E_BadMap : ErrH K C_BadMap fI "BadMap") (E_BadWish : ErrH K C_BadWish fI "BadWish") (E_Refused : ErrH K C_Refused fI "Refused") (tI : PySem.W.typeIn K (.ref fI) = some (.type "function")) (FI : L2.Fun K "__init__" "Refused.__init__" s_init fI fdI) (bI : Binds K fdI ["self", "what"] []) (X_BadMap_Refused : PySem.W.subIn K (.ref C_BadMap) (.ref C_Refused) = some true) (X_BadWish_Refused : PySem.W.subIn K (.ref C_BadWish) (.ref C_Refused) = some true) 
    (a : PySem.W.nsIn K mainGlobals "law" = some (some (.ref f))) (lk : K.lookup f = some ⟨oc, od, .func (PySem.W.fnOf "law" "law" (L2.defArgs s_law) (L2.defBody s_law) (L2.defScope s_law) .none kV doc pm an cdv ct), osl⟩) (c : PySem.W.codeIn K cdv "law" = true) (k : PySem.W.keepIn K (.ref f) = true) :
    ∃ fd : FuncData, (∀ (s : Shared) (v : Value), BindsTo s fd ⟨[v], []⟩ [("script", v)]) ∧ ∀ base : Heap, K.In base → base.Ns mainGlobals mg → FnG l.prog w K mg base 11 fa fd ["script"] (sp_law K) := by
  have e := hfa.symm.trans (PySem.W.mg_of X G a)
  cases e
  have F := fun_mk (st := s_law) lk c k
  refine ⟨PySem.W.fnOf "law" "law" (L2.defArgs s_law) (L2.defBody s_law) (L2.defScope s_law) .none kV doc pm an cdv ct, fun s v => .of_eq rfl, fun base _ _ => ?_⟩
  let ca : Str → Addr := caOf [("BadMap", C_BadMap), ("BadWish", C_BadWish), ("Refused", C_Refused)]
  have h_BadMap : ca "BadMap" = C_BadMap := by rfl
  have h_BadWish : ca "BadWish" = C_BadWish := by rfl
  have h_Refused : ca "Refused" = C_Refused := by rfl
  have e_BadMap : Er l.prog w K mg base ca "BadMap" := er_mk X G E_BadMap tI FI bI h_BadMap
  have e_BadWish : Er l.prog w K mg base ca "BadWish" := er_mk X G E_BadWish tI FI bI h_BadWish
  have e_Refused : Er l.prog w K mg base ca "Refused" := er_mk X G E_Refused tI FI bI h_Refused
  have x_BadMap_Refused : Exm K ca "BadMap" "Refused" true := exm_mk (fI := fI) E_Refused X_BadMap_Refused h_BadMap h_Refused
  have x_BadWish_Refused : Exm K ca "BadWish" "Refused" true := exm_mk (fI := fI) E_Refused X_BadWish_Refused h_BadWish h_Refused
  have c_law_pool := cal_law_pool (P := l.prog) (w := w) (base := base) T D_law_pool 
  have c_law_draw := cal_law_draw (P := l.prog) (w := w) (base := base) T D_law_draw 
  have c_law_turned := cal_law_turned (P := l.prog) (w := w) (base := base) T D_law_turned c_law_draw
  have c_law_map_named := cal_law_map_named (P := l.prog) (w := w) (base := base) T D_law_map_named c_law_turned
  have c_law_map_some_wished := cal_law_map_some_wished (P := l.prog) (w := w) (base := base) T D_law_map_some_wished c_law_draw
  have c_law_map_drawn := cal_law_map_drawn (P := l.prog) (w := w) (base := base) T D_law_map_drawn c_law_draw c_law_map_named c_law_map_some_wished
  have c_law_map_lot := cal_law_map_lot (P := l.prog) (w := w) (base := base) T D_law_map_lot c_law_draw
  have c_law_pick := cal_law_pick (P := l.prog) (w := w) (base := base) T D_law_pick c_law_draw
  have c_law_strolled := cal_law_strolled (P := l.prog) (w := w) (base := base) T D_law_strolled c_law_pick
  have c_law_bent_way := cal_law_bent_way (P := l.prog) (w := w) (base := base) T D_law_bent_way c_law_draw
  have c_is_number := cal_is_number (P := l.prog) (w := w) (base := base) T D_is_number 
  have c_number_within := cal_number_within (P := l.prog) (w := w) (base := base) T D_number_within c_is_number
  have c_road_fits := cal_road_fits (P := l.prog) (w := w) (base := base) T D_road_fits c_number_within
  have c_check_roads := cal_check_roads (P := l.prog) (w := w) (base := base) T D_check_roads m_MOST_ROADS e_BadMap c_road_fits
  have c_first_bad_place := cal_first_bad_place (P := l.prog) (w := w) (base := base) T D_first_bad_place c_number_within
  have c_made_map := cal_made_map (P := l.prog) (w := w) (base := base) T D_made_map m_MOST_PLACES e_BadMap e_BadWish c_number_within c_check_roads c_first_bad_place
  have c_is_map := cal_is_map (P := l.prog) (w := w) (base := base) T D_is_map e_Refused x_BadMap_Refused x_BadWish_Refused c_made_map
  have c_lot_fits := cal_lot_fits (P := l.prog) (w := w) (base := base) T D_lot_fits c_first_bad_place
  have c_free_fits := cal_free_fits (P := l.prog) (w := w) (base := base) T D_free_fits c_lot_fits
  have c_place_fits := cal_place_fits (P := l.prog) (w := w) (base := base) T D_place_fits c_number_within
  have c_way_fits := cal_way_fits (P := l.prog) (w := w) (base := base) T D_way_fits c_place_fits
  have c_unwished_of := cal_unwished_of (P := l.prog) (w := w) (base := base) T D_unwished_of 
  have c_ways_fit := cal_ways_fit (P := l.prog) (w := w) (base := base) T D_ways_fit c_way_fits c_unwished_of
  have c_ways_right := cal_ways_right (P := l.prog) (w := w) (base := base) T D_ways_right c_is_map c_lot_fits c_free_fits c_ways_fit
  have c_law_way_is_way := cal_law_way_is_way (P := l.prog) (w := w) (base := base) T D_law_way_is_way 
  have c_law_way_apart := cal_law_way_apart (P := l.prog) (w := w) (base := base) T D_law_way_apart 
  have c_law_way_judged := cal_law_way_judged (P := l.prog) (w := w) (base := base) T D_law_way_judged c_law_way_is_way c_law_way_apart
  have c_law_told := cal_law_told (P := l.prog) (w := w) (base := base) T D_law_told c_ways_right c_law_way_judged
  have c_law_all_told := cal_law_all_told (P := l.prog) (w := w) (base := base) T D_law_all_told c_law_draw c_law_bent_way c_law_told
  have c_law_map_planted := cal_law_map_planted (P := l.prog) (w := w) (base := base) T D_law_map_planted c_law_draw c_law_map_named
  have c_law_planted := cal_law_planted (P := l.prog) (w := w) (base := base) T D_law_planted c_law_map_planted c_law_draw c_law_pick c_law_all_told
  have c_law_way_no_charts := cal_law_way_no_charts (P := l.prog) (w := w) (base := base) T D_law_way_no_charts 
  have c_law_way_no_lots := cal_law_way_no_lots (P := l.prog) (w := w) (base := base) T D_law_way_no_lots 
  have c_law_no_arguments := cal_law_no_arguments (P := l.prog) (w := w) (base := base) T D_law_no_arguments c_ways_right c_law_way_no_charts c_law_way_no_lots
  exact fn_law T F c_law_pool c_law_draw c_law_map_drawn c_law_map_lot c_law_strolled c_law_all_told c_law_planted c_law_no_arguments
theorem walk {l : PySem.W.OpenLaw} {q : Program} {loose : List Str} {XP : (Str → Option Value) → Heap → Prop} {YP : World → Heap → Prop} {d : DefRec} {K : Params → PySem.W.Frag} (hn : l.most = some 63) (hdf : d.params.defaults = [])
    (hY : ∀ (w : World) (h : Heap), YP w h → (K w.params).In h)
    (F : ∀ (w : World) (mg : Str → Option Value) (fa : Addr) (h : Heap), (K w.params).In h → h.Ns mainGlobals mg → mg d.name = some (.ref fa) →
      ∃ fd : FuncData, (∀ (s : Shared) (u : Value), BindsTo s fd ⟨[u], []⟩ [("script", u)]) ∧ ∀ base : Heap, (K w.params).In base → base.Ns mainGlobals mg → FnG l.prog w (K w.params) mg base 11 fa fd ["script"] (sp_law (K w.params))) :
    PySem.W.WalkO q loose XP YP l.row.toRowW d [] (fun f vs => PySem.call f vs) :=
  gwalk (n := 63) (k := 11) (x := "script") (sp := fun w => sp_law (K w.params)) hn (by decide) hdf ⟨rfl, by decide, by decide⟩ hY F (fun _ _ a ns _ _ hS => ⟨a, ns, rfl, hS, fun _ => rfl⟩)
end Ft

open PySem PySem.W PyProof.Rows
set_option maxRecDepth 100000 in
set_option maxHeartbeats 0 in
theorem PySem.Challenge.cw_fewtraps_k09_ways_judged_holds : PySem.Challenge.rw_fewtraps_k09_ways_judged.Holds := by
  w_on; o_law; k_head; (case hw => w_witness2)
  k_fill
  refine Ft.walk (l := PySem.Challenge.rw_fewtraps_k09_ways_judged) rfl rfl (fun w h Y => PySem.W.kIn_of Y) ?F
  case F =>
    intro w mg fa h KX G hmg
    refine' Ft.all_mk KX G hmg (Ft.txt_mk KX G ?z0 ?z1 ?z2 ?z3 ?z4 ?z5 ?z6 ?z7 ?z8 ?z9 ?z10 ?z11 ?z12 ?z13 ?z14 ?z15 ?z16 ?z17 ?z18) (Ft.def_mk KX G ?a_law_pool ?l_law_pool ?c_law_pool ?k_law_pool) (Ft.def_mk KX G ?a_law_draw ?l_law_draw ?c_law_draw ?k_law_draw) (Ft.def_mk KX G ?a_law_turned ?l_law_turned ?c_law_turned ?k_law_turned) (Ft.def_mk KX G ?a_law_map_named ?l_law_map_named ?c_law_map_named ?k_law_map_named) (Ft.def_mk KX G ?a_law_map_some_wished ?l_law_map_some_wished ?c_law_map_some_wished ?k_law_map_some_wished) (Ft.def_mk KX G ?a_law_map_drawn ?l_law_map_drawn ?c_law_map_drawn ?k_law_map_drawn) (Ft.def_mk KX G ?a_law_map_lot ?l_law_map_lot ?c_law_map_lot ?k_law_map_lot) (Ft.def_mk KX G ?a_law_pick ?l_law_pick ?c_law_pick ?k_law_pick) (Ft.def_mk KX G ?a_law_strolled ?l_law_strolled ?c_law_strolled ?k_law_strolled) (Ft.def_mk KX G ?a_law_bent_way ?l_law_bent_way ?c_law_bent_way ?k_law_bent_way) (Ft.def_mk KX G ?a_is_number ?l_is_number ?c_is_number ?k_is_number) (Ft.def_mk KX G ?a_number_within ?l_number_within ?c_number_within ?k_number_within) (Ft.def_mk KX G ?a_road_fits ?l_road_fits ?c_road_fits ?k_road_fits) (Ft.def_mk KX G ?a_check_roads ?l_check_roads ?c_check_roads ?k_check_roads) (Ft.def_mk KX G ?a_first_bad_place ?l_first_bad_place ?c_first_bad_place ?k_first_bad_place) (Ft.def_mk KX G ?a_made_map ?l_made_map ?c_made_map ?k_made_map) (Ft.def_mk KX G ?a_is_map ?l_is_map ?c_is_map ?k_is_map) (Ft.def_mk KX G ?a_lot_fits ?l_lot_fits ?c_lot_fits ?k_lot_fits) (Ft.def_mk KX G ?a_free_fits ?l_free_fits ?c_free_fits ?k_free_fits) (Ft.def_mk KX G ?a_place_fits ?l_place_fits ?c_place_fits ?k_place_fits) (Ft.def_mk KX G ?a_way_fits ?l_way_fits ?c_way_fits ?k_way_fits) (Ft.def_mk KX G ?a_unwished_of ?l_unwished_of ?c_unwished_of ?k_unwished_of) (Ft.def_mk KX G ?a_ways_fit ?l_ways_fit ?c_ways_fit ?k_ways_fit) (Ft.def_mk KX G ?a_ways_right ?l_ways_right ?c_ways_right ?k_ways_right) (Ft.def_mk KX G ?a_law_way_is_way ?l_law_way_is_way ?c_law_way_is_way ?k_law_way_is_way) (Ft.def_mk KX G ?a_law_way_apart ?l_law_way_apart ?c_law_way_apart ?k_law_way_apart) (Ft.def_mk KX G ?a_law_way_judged ?l_law_way_judged ?c_law_way_judged ?k_law_way_judged) (Ft.def_mk KX G ?a_law_told ?l_law_told ?c_law_told ?k_law_told) (Ft.def_mk KX G ?a_law_all_told ?l_law_all_told ?c_law_all_told ?k_law_all_told) (Ft.def_mk KX G ?a_law_map_planted ?l_law_map_planted ?c_law_map_planted ?k_law_map_planted) (Ft.def_mk KX G ?a_law_planted ?l_law_planted ?c_law_planted ?k_law_planted) (Ft.def_mk KX G ?a_law_way_no_charts ?l_law_way_no_charts ?c_law_way_no_charts ?k_law_way_no_charts) (Ft.def_mk KX G ?a_law_way_no_lots ?l_law_way_no_lots ?c_law_way_no_lots ?k_law_way_no_lots) (Ft.def_mk KX G ?a_law_no_arguments ?l_law_no_arguments ?c_law_no_arguments ?k_law_no_arguments) (Ft.mgI_mk KX G ?m_MOST_PLACES) (Ft.mgI_mk KX G ?m_MOST_ROADS) (Ft.errH_mk ?ea_BadMap ?ecl_BadMap ?r_BadMap ?esa_BadMap ?ega_BadMap ?egg_BadMap ?enw_BadMap ?eii_BadMap ?eex_BadMap ?ety_BadMap ?ekp_BadMap ?ehd_BadMap ?eic_BadMap) (Ft.errH_mk ?ea_BadWish ?ecl_BadWish ?r_BadWish ?esa_BadWish ?ega_BadWish ?egg_BadWish ?enw_BadWish ?eii_BadWish ?eex_BadWish ?ety_BadWish ?ekp_BadWish ?ehd_BadWish ?eic_BadWish) (Ft.errH_mk ?ea_Refused ?ecl_Refused ?r_Refused ?esa_Refused ?ega_Refused ?egg_Refused ?enw_Refused ?eii_Refused ?eex_Refused ?ety_Refused ?ekp_Refused ?ehd_Refused ?eic_Refused) ?tI (L2.fun_mk ?lI ?cI ?kI) (L2.Fun.binds (st := Ft.s_init) (L2.fun_mk ?lI ?cI ?kI) fun _ _ _ _ _ _ us hl => match us, hl with | [_, _], _ => rfl) ?X_BadMap_Refused ?X_BadWish_Refused ?a ?l ?c ?k
    (case a_law_pool => k_is); (case l_law_pool => k_is); (case c_law_pool => k_is); (case k_law_pool => k_is)
    (case a_law_draw => k_is); (case l_law_draw => k_is); (case c_law_draw => k_is); (case k_law_draw => k_is)
    (case a_law_turned => k_is); (case l_law_turned => k_is); (case c_law_turned => k_is); (case k_law_turned => k_is)
    (case a_law_map_named => k_is); (case l_law_map_named => k_is); (case c_law_map_named => k_is); (case k_law_map_named => k_is)
    (case a_law_map_some_wished => k_is); (case l_law_map_some_wished => k_is); (case c_law_map_some_wished => k_is); (case k_law_map_some_wished => k_is)
    (case a_law_map_drawn => k_is); (case l_law_map_drawn => k_is); (case c_law_map_drawn => k_is); (case k_law_map_drawn => k_is)
    (case a_law_map_lot => k_is); (case l_law_map_lot => k_is); (case c_law_map_lot => k_is); (case k_law_map_lot => k_is)
    (case a_law_pick => k_is); (case l_law_pick => k_is); (case c_law_pick => k_is); (case k_law_pick => k_is)
    (case a_law_strolled => k_is); (case l_law_strolled => k_is); (case c_law_strolled => k_is); (case k_law_strolled => k_is)
    (case a_law_bent_way => k_is); (case l_law_bent_way => k_is); (case c_law_bent_way => k_is); (case k_law_bent_way => k_is)
    (case a_is_number => k_is); (case l_is_number => k_is); (case c_is_number => k_is); (case k_is_number => k_is)
    (case a_number_within => k_is); (case l_number_within => k_is); (case c_number_within => k_is); (case k_number_within => k_is)
    (case a_road_fits => k_is); (case l_road_fits => k_is); (case c_road_fits => k_is); (case k_road_fits => k_is)
    (case a_check_roads => k_is); (case l_check_roads => k_is); (case c_check_roads => k_is); (case k_check_roads => k_is)
    (case a_first_bad_place => k_is); (case l_first_bad_place => k_is); (case c_first_bad_place => k_is); (case k_first_bad_place => k_is)
    (case a_made_map => k_is); (case l_made_map => k_is); (case c_made_map => k_is); (case k_made_map => k_is)
    (case a_is_map => k_is); (case l_is_map => k_is); (case c_is_map => k_is); (case k_is_map => k_is)
    (case a_lot_fits => k_is); (case l_lot_fits => k_is); (case c_lot_fits => k_is); (case k_lot_fits => k_is)
    (case a_free_fits => k_is); (case l_free_fits => k_is); (case c_free_fits => k_is); (case k_free_fits => k_is)
    (case a_place_fits => k_is); (case l_place_fits => k_is); (case c_place_fits => k_is); (case k_place_fits => k_is)
    (case a_way_fits => k_is); (case l_way_fits => k_is); (case c_way_fits => k_is); (case k_way_fits => k_is)
    (case a_unwished_of => k_is); (case l_unwished_of => k_is); (case c_unwished_of => k_is); (case k_unwished_of => k_is)
    (case a_ways_fit => k_is); (case l_ways_fit => k_is); (case c_ways_fit => k_is); (case k_ways_fit => k_is)
    (case a_ways_right => k_is); (case l_ways_right => k_is); (case c_ways_right => k_is); (case k_ways_right => k_is)
    (case a_law_way_is_way => k_is); (case l_law_way_is_way => k_is); (case c_law_way_is_way => k_is); (case k_law_way_is_way => k_is)
    (case a_law_way_apart => k_is); (case l_law_way_apart => k_is); (case c_law_way_apart => k_is); (case k_law_way_apart => k_is)
    (case a_law_way_judged => k_is); (case l_law_way_judged => k_is); (case c_law_way_judged => k_is); (case k_law_way_judged => k_is)
    (case a_law_told => k_is); (case l_law_told => k_is); (case c_law_told => k_is); (case k_law_told => k_is)
    (case a_law_all_told => k_is); (case l_law_all_told => k_is); (case c_law_all_told => k_is); (case k_law_all_told => k_is)
    (case a_law_map_planted => k_is); (case l_law_map_planted => k_is); (case c_law_map_planted => k_is); (case k_law_map_planted => k_is)
    (case a_law_planted => k_is); (case l_law_planted => k_is); (case c_law_planted => k_is); (case k_law_planted => k_is)
    (case a_law_way_no_charts => k_is); (case l_law_way_no_charts => k_is); (case c_law_way_no_charts => k_is); (case k_law_way_no_charts => k_is)
    (case a_law_way_no_lots => k_is); (case l_law_way_no_lots => k_is); (case c_law_way_no_lots => k_is); (case k_law_way_no_lots => k_is)
    (case a_law_no_arguments => k_is); (case l_law_no_arguments => k_is); (case c_law_no_arguments => k_is); (case k_law_no_arguments => k_is)
    (case m_MOST_PLACES => k_is)
    (case m_MOST_ROADS => k_is)
    (case ea_BadMap => k_is); (case ecl_BadMap => k_is); (case esa_BadMap => k_is); (case ega_BadMap => k_is); (case egg_BadMap => k_is); (case enw_BadMap => k_is); (case eii_BadMap => k_is); (case eex_BadMap => k_is); (case ety_BadMap => k_is); (case ekp_BadMap => k_is); (case ehd_BadMap => k_is); (case eic_BadMap => k_is); (case r_BadMap => decide +kernel)
    (case ea_BadWish => k_is); (case ecl_BadWish => k_is); (case esa_BadWish => k_is); (case ega_BadWish => k_is); (case egg_BadWish => k_is); (case enw_BadWish => k_is); (case eii_BadWish => k_is); (case eex_BadWish => k_is); (case ety_BadWish => k_is); (case ekp_BadWish => k_is); (case ehd_BadWish => k_is); (case eic_BadWish => k_is); (case r_BadWish => decide +kernel)
    (case ea_Refused => k_is); (case ecl_Refused => k_is); (case esa_Refused => k_is); (case ega_Refused => k_is); (case egg_Refused => k_is); (case enw_Refused => k_is); (case eii_Refused => k_is); (case eex_Refused => k_is); (case ety_Refused => k_is); (case ekp_Refused => k_is); (case ehd_Refused => k_is); (case eic_Refused => k_is); (case r_Refused => decide +kernel)
    (case tI => k_is); (case lI => k_is); (case cI => k_is); (case kI => k_is)
    (case X_BadMap_Refused => first | rfl | k_is)
    (case X_BadWish_Refused => first | rfl | k_is)
    (case z0 => k_is)
    (case z1 => k_is)
    (case z2 => k_is)
    (case z3 => k_is)
    (case z4 => k_is)
    (case z5 => k_is)
    (case z6 => k_is)
    (case z7 => k_is)
    (case z8 => k_is)
    (case z9 => k_is)
    (case z10 => k_is)
    (case z11 => k_is)
    (case z12 => k_is)
    (case z13 => k_is)
    (case z14 => k_is)
    (case z15 => k_is)
    (case z16 => k_is)
    (case z17 => k_is)
    (case z18 => k_is)
    (case a => k_is); (case l => k_is); (case c => k_is); (case k => k_is)
